/- What earlier stages proved: Ya Yb Yc Yd. -/
import Derived.Test.YtkhicgafhbecfaaGreatDoorM5
import Derived.Test.YtkhicgafhbecfaaGreatDoorM7
import Derived.Lib.ItoaNum
import Derived.Test.YtkhicgafhbecfaaGreatDoorKw
namespace Go.Proofs.YtkhicgafhbecfaaGreatDoor
open Go.RowKit

/-- A string lies in a text from an offset on. -/
def LiesAt (S : ByteArray) (k : Nat) (w : ByteArray) : Prop := ∀ j, j < w.size → k + j < S.size ∧ bt S (k + j) = bt w j
theorem LiesAt.len {S : ByteArray} {k : Nat} {w : ByteArray} (h : LiesAt S k w) (hk : k ≤ S.size) : k + w.size ≤ S.size := by
  rcases Nat.eq_zero_or_pos w.size with e | e
  · omega
  · have := (h (w.size - 1) (by omega)).1; omega
theorem lies_app {S : ByteArray} {k : Nat} {a b : ByteArray} (h : LiesAt S k (a ++ b)) : LiesAt S k a ∧ LiesAt S (k + a.size) b := by
  have hs : (a ++ b).size = a.size + b.size := ByteArray.size_append
  constructor
  · intro j hj
    have := h j (by omega)
    rw [bt_app, if_pos hj] at this
    exact this
  · intro j hj
    have := h (a.size + j) (by omega)
    rw [bt_app, if_neg (by omega), show a.size + j - a.size = j by omega, ← Nat.add_assoc] at this
    exact this
/-- A word that lies there is accepted. -/
theorem wd_at {S : ByteArray} {k i : Nat} {ws : List ByteArray} (hw : Wok ws) (hi : i < ws.length) (h : LiesAt S k (ws.getD i ByteArray.empty)) : wdF S k ws = some i := by
  have e : cm S k (ws.getD i ByteArray.empty) = (ws.getD i ByteArray.empty).size := by
    have h1 := cm_ge.2 ⟨Nat.le_refl _, h⟩
    have h2 := (cm_spec S k (ws.getD i ByteArray.empty)).1
    omega
  have hit : hitB S k (ws.getD i ByteArray.empty) = true := decide_eq_true e
  refine wdF_is hi hit fun j hj => ?_
  cases q : hitB S k (ws.getD j ByteArray.empty)
  · rfl
  · have ej : cm S k (ws.getD j ByteArray.empty) = (ws.getD j ByteArray.empty).size := of_decide_eq_true q
    rcases Nat.le_total (ws.getD i ByteArray.empty).size (ws.getD j ByteArray.empty).size with g | g
    · have := wok_one hw hi (show j < ws.length by omega) hit (by omega); omega
    · have := wok_one hw (show j < ws.length by omega) hi q (by omega); omega
/-- The word that is accepted lies there. -/
theorem at_wd {S : ByteArray} {k i : Nat} {ws : List ByteArray} (h : wdF S k ws = some i) : i < ws.length ∧ LiesAt S k (ws.getD i ByteArray.empty) := by
  obtain ⟨h1, h2, _⟩ := wdF_some h
  have e : cm S k (ws.getD i ByteArray.empty) = (ws.getD i ByteArray.empty).size := of_decide_eq_true h2
  exact ⟨h1, (cm_ge.1 (Nat.le_of_eq e.symm)).2⟩
/-- A number's digits that lie there, with no digit behind them. -/
theorem nu_at {S : ByteArray} {k n : Nat} {D : ByteArray} (hd : DecOk n D) (h : LiesAt S k D) (hn : dg S (k + D.size) = false) : nuB S k = false ∧ nuK S k = k + D.size ∧ nuV S k = (n : Int) := by
  have l1 := hd.l1
  have b0 := h 0 (by omega)
  rw [Nat.add_zero] at b0
  have d0 := dg_iff.1 (hd.dgt 0 (by omega))
  rw [Nat.add_zero] at d0
  have dd : ∀ j, j < D.size → dg S (k + j) = true := fun j hj => by
    have q := dg_iff.1 (hd.dgt j hj)
    rw [Nat.zero_add] at q
    exact dg_iff.2 ⟨(h j hj).1, by rw [(h j hj).2]; exact q.2.1, by rw [(h j hj).2]; exact q.2.2⟩
  have hv : vl S k D.size = (n : Int) := by
    rw [← hd.val]
    have : ∀ m, m ≤ D.size → vl S k m = vl D 0 m := by
      intro m
      induction m with
      | zero => intro _; rfl
      | succ m ih => intro hm; rw [vl_succ, vl_succ, ih (by omega), (h m (by omega)).2, Nat.zero_add]
    exact this _ (Nat.le_refl _)
  by_cases z : bt D 0 = 48
  · have s1 : D.size = 1 := by
      rcases hd.ld with e | e
      · exact e
      · omega
    have hz : nuZ S k = true := by unfold nuZ; rw [b0.2, z, dtrue b0.1]; rfl
    rw [s1] at hv
    have v1 : vl S k 1 = 10 * 0 + (bt S (k + 0) - 48) := rfl
    rw [v1, Nat.add_zero, b0.2, z] at hv
    unfold nuB nuK nuV
    rw [hz, s1]
    exact ⟨rfl, rfl, by simpa using hv⟩
  · have hz : nuZ S k = false := by unfold nuZ; rw [b0.2, dfalse z, Bool.and_false]
    have hneg : nuN S k = false := by unfold nuN; rw [b0.2, dfalse (show ¬ bt D 0 = 45 by omega), Bool.and_false]
    have eI : nuI S k = k := by unfold nuI; rw [hneg]; rfl
    have hD : nuD S k = true := by
      unfold nuD
      rw [eI, dg_iff.2 ⟨b0.1, by rw [b0.2]; omega, by rw [b0.2]; omega⟩, b0.2, dfalse z]
      rfl
    have eg : dgs S k 10 = D.size := dgs_eq hd.l2 dd (.inr hn)
    unfold nuB nuK nuV
    rw [hz, hD, hneg, eI, eg]
    exact ⟨rfl, rfl, hv⟩
/-- An identifier that lies there, with a byte behind it that is none of one's. -/
theorem id_at {S : ByteArray} {k : Nat} {t : ByteArray} (hk : k ≤ S.size) (h : idn t = true) (hl : LiesAt S k t) (hn : k + t.size < S.size → ¬ (97 ≤ bt S (k + t.size) ∧ bt S (k + t.size) ≤ 122) ∧ ¬ (48 ≤ bt S (k + t.size) ∧ bt S (k + t.size) ≤ 57) ∧ bt S (k + t.size) ≠ 45) : idL S k = t.size ∧ idB S k = false := by
  obtain ⟨h1, h2, h3⟩ := idn_pc.1 h
  have _ := hl.len hk
  have bf : ∀ j, j ≤ t.size → bfo S k j = bfr t j := fun j hj => by
    unfold bfo bfr
    by_cases q : j = 0
    · rw [if_pos q, if_pos q]
    · rw [if_neg q, if_neg q, show k + j - 1 = k + (j - 1) by omega, (hl (j - 1) (by omega)).2]
  have hp : ∀ j, j < t.size → idP S k j := fun j hj => by
    refine ⟨(hl j hj).1, by omega, ?_⟩
    rw [(hl j hj).2, bf j (by omega)]
    rcases h2 j hj with g | g | ⟨g, g2⟩
    · exact .inl g
    · exact .inr (.inl g)
    · refine .inr (.inr ⟨g, g2, fun e => ?_⟩)
      have e2 : t.size = j + 1 := by omega
      rw [e2, bfr_succ] at h3
      exact h3 g
  have hq : ¬ idP S k t.size := fun c => by
    obtain ⟨c1, _, c3⟩ := c
    obtain ⟨q1, q2, q3⟩ := hn c1
    rcases c3 with c | ⟨c, d, _⟩ | ⟨c, _⟩
    · exact q1 c
    · exact q2 ⟨c, d⟩
    · exact q3 c
  have e := idL_eq hp hq
  refine ⟨e, ?_⟩
  unfold idB
  rw [e, bf _ (Nat.le_refl _)]
  exact decide_eq_false h3
theorem vl_low {S : ByteArray} {i : Nat} (h : 49 ≤ bt S i) : ∀ {m : Nat}, (∀ j, j < m + 1 → dg S (i + j) = true) → pw m ≤ vl S i (m + 1) := by
  intro m
  induction m with
  | zero =>
    intro _
    show (1 : Int) ≤ 10 * 0 + (bt S (i + 0) - 48)
    rw [Nat.add_zero]; omega
  | succ m ih =>
    intro hd
    have h1 := ih (fun j hj => hd j (by omega))
    have h2 := dg_iff.1 (hd (m + 1) (by omega))
    rw [vl_succ]
    have : pw (m + 1) = 10 * pw m := rfl
    omega
/-- Digits that lie in a text, the first of them not 0 unless it is alone, are a decimal text. -/
theorem dec_ext {S : ByteArray} {i m : Nat} (h1 : 1 ≤ m) (h2 : m ≤ 10) (hs : i + m ≤ S.size) (hd : ∀ j, j < m → dg S (i + j) = true) (hl : m = 1 ∨ 49 ≤ bt S i) : DecOk (vl S i m).toNat (S.extract i (i + m)) ∧ ((vl S i m).toNat : Int) = vl S i m := by
  have es : (S.extract i (i + m)).size = m := by rw [ext_size (by omega) hs]; omega
  have hv := vl_bd hd
  have hn : ((vl S i m).toNat : Int) = vl S i m := by omega
  have e0 : bt (S.extract i (i + m)) 0 = bt S i := by rw [bt_ext (by omega), Nat.add_zero]
  refine ⟨⟨by omega, by omega, fun j hj => ?_, ?_, ?_, ?_⟩, hn⟩
  · rw [es] at hj
    rw [Nat.zero_add, dg_ext (by omega) hs]; exact hd j hj
  · rw [es, vl_ext (by omega), Nat.add_zero, hn]
  · rw [es, e0]; exact hl
  · rw [es, hn]
    rcases hl with e | e
    · exact .inl e
    · right
      have := vl_low e (m := m - 1) (fun j hj => hd j (by omega))
      rwa [show m - 1 + 1 = m by omega] at this
/-- The number that is accepted. -/
theorem at_nu {S : ByteArray} {k : Nat} (hk : k ≤ S.size) (h : nuB S k = false) :
    (∃ n : Nat, nuV S k = (n : Int) ∧ DecOk n (S.extract k (nuK S k))) ∨ (∃ n : Nat, 1 ≤ n ∧ nuV S k = -(n : Int) ∧ k < S.size ∧ bt S k = 45 ∧ DecOk n (S.extract (k + 1) (nuK S k))) := by
  have hle := nuK_le S k hk
  cases hz : nuZ S k
  · cases hd : nuD S k
    · unfold nuB at h; rw [hz, hd] at h; cases h
    · obtain ⟨y1, y2, y3⟩ := nuD_yes hd
      have y4 : dg S (nuI S k) = true := dg_iff.2 ⟨y1, by omega, y3⟩
      have m1 : 1 ≤ dgs S (nuI S k) 10 := by
        show 1 ≤ if dg S (nuI S k) then dgs S (nuI S k + 1) 9 + 1 else 0
        rw [y4, if_pos rfl]; omega
      have m2 := dgs_le S (nuI S k) 10
      have eK : nuK S k = nuI S k + dgs S (nuI S k) 10 := by unfold nuK; rw [hz, hd]; rfl
      have hs := dgs_size S (nuI S k) 10 (nuI_le S k hk)
      obtain ⟨q1, q2⟩ := dec_ext m1 m2 hs (dgs_all S 10 (nuI S k)) (.inr y2)
      rw [← eK] at q1
      cases hn : nuN S k
      · obtain ⟨-, eI⟩ := nuN_no hn
        left
        refine ⟨_, ?_, by rw [eI] at q1; exact q1⟩
        unfold nuV; rw [hz, hd, hn]
        show vl S (nuI S k) _ = _
        rw [eI] at q2 ⊢; exact q2.symm
      · obtain ⟨n1, n2, eI⟩ := nuN_yes hn
        right
        have hp := vl_low y2 (m := dgs S (nuI S k) 10 - 1) (fun j hj => dgs_all S 10 (nuI S k) j (by omega))
        rw [show dgs S (nuI S k) 10 - 1 + 1 = dgs S (nuI S k) 10 by omega] at hp
        have h3 := pw_mono (show 0 ≤ dgs S (nuI S k) 10 - 1 by omega)
        have h4 : pw 0 = 1 := rfl
        refine ⟨(vl S (nuI S k) (dgs S (nuI S k) 10)).toNat, by omega, ?_, n1, n2, by rw [eI] at q1 ⊢; exact q1⟩
        unfold nuV; rw [hz, hd, hn]
        show - vl S (nuI S k) _ = _
        rw [eI] at q2 ⊢; rw [q2]
  · obtain ⟨z1, z2⟩ := nuZ_yes hz
    have eK : nuK S k = k + 1 := by unfold nuK; rw [hz]; rfl
    have eV : nuV S k = 0 := by unfold nuV; rw [hz]; rfl
    have d0 : dg S k = true := dg_iff.2 ⟨z1, by omega, by omega⟩
    obtain ⟨q1, q2⟩ := dec_ext (S := S) (i := k) (m := 1) (Nat.le_refl _) (by omega) (by omega) (fun j hj => by rw [show k + j = k by omega]; exact d0) (.inl rfl)
    left
    have v1 : vl S k 1 = 10 * 0 + (bt S (k + 0) - 48) := rfl
    rw [Nat.add_zero, z2] at v1
    refine ⟨_, ?_, by rw [eK]; exact q1⟩
    rw [eV, q2, v1]; rfl
theorem bt_inj {D E : ByteArray} (hs : D.size = E.size) (h : ∀ j, j < D.size → bt D j = bt E j) : D = E := by
  have : D.data.toList = E.data.toList := by
    refine List.ext_getElem (by simpa using hs) fun j h1 h2 => ?_
    have h1' : j < D.size := by simpa using h1
    have := h j h1'
    unfold bt at this
    rw [List.getD_eq_getElem?_getD, List.getElem?_eq_getElem h1, List.getD_eq_getElem?_getD, List.getElem?_eq_getElem h2] at this
    have this : ((D.data[j].toNat : Nat) : Int) = (E.data[j].toNat : Nat) := by simpa using this
    exact UInt8.toNat_inj.1 (Int.ofNat.inj this)
  exact congrArg ByteArray.mk (Array.toList_inj.1 this)
theorem vl_inj {D E : ByteArray} : ∀ {m : Nat}, (∀ j, j < m → dg D (0 + j) = true) → (∀ j, j < m → dg E (0 + j) = true) → vl D 0 m = vl E 0 m → ∀ j, j < m → bt D j = bt E j := by
  intro m
  induction m with
  | zero => intro _ _ _ j hj; omega
  | succ m ih =>
    intro h1 h2 h j hj
    have a := dg_iff.1 (h1 m (by omega))
    have b := dg_iff.1 (h2 m (by omega))
    rw [vl_succ, vl_succ] at h
    rw [Nat.zero_add] at a b h
    by_cases q : j < m
    · exact ih (fun j hj => h1 j (by omega)) (fun j hj => h2 j (by omega)) (by omega) j q
    · rw [show j = m by omega]; omega
/-- A number has one decimal text. -/
theorem dec_uniq {n : Nat} {D E : ByteArray} (hD : DecOk n D) (hE : DecOk n E) : D = E := by
  have key : ∀ {A B : ByteArray}, DecOk n A → DecOk n B → A.size ≤ B.size := fun {A B} a b => by
    rcases a.low with e | e
    · have := b.l1; omega
    · refine Classical.byContradiction fun c => ?_
      have h1 := (vl_bd b.dgt).2
      rw [b.val] at h1
      have h2 := pw_mono (show B.size ≤ A.size - 1 by omega)
      omega
  have hs : D.size = E.size := Nat.le_antisymm (key hD hE) (key hE hD)
  refine bt_inj hs (vl_inj hD.dgt (by rw [hs]; exact hE.dgt) ?_)
  rw [hD.val, hs, hE.val]
end Go.Proofs.YtkhicgafhbecfaaGreatDoor

namespace Go.Proofs.YtkhicgafhbecfaaGreatDoor
open Go.RowKit

/-- Where a scanner stands, and whether it has failed. -/
structure Sc where
  k : Nat
  b : Bool
abbrev Prs (α : Type) := ByteArray → Sc → α × Sc
def yW (ws : List ByteArray) : Prs Int := fun S x => (fwI x.b S x.k ws, ⟨fwK x.b S x.k ws, fwB x.b S x.k ws⟩)
def yNu : Prs Int := fun S x => (fnV x.b S x.k, ⟨fnK x.b S x.k, fnB x.b S x.k⟩)
def yI : Prs ByteArray := fun S x => (fiV x.b S x.k, ⟨fiK x.b S x.k, fiB x.b S x.k⟩)
def yR {α : Type} (a : α) : Prs α := fun _ x => (a, x)
def yB {α β : Type} (f : Prs α) (g : α → Prs β) : Prs β := fun S x => g (f S x).1 S (f S x).2
/-- What every step keeps. -/
structure Gk {α : Type} (f : Prs α) : Prop where
  le : ∀ S x, x.k ≤ S.size → x.k ≤ (f S x).2.k ∧ (f S x).2.k ≤ S.size
  bad : ∀ S x, x.b = true → (f S x).2 = x
theorem Gk.ok {α : Type} {f : Prs α} (h : Gk f) {S : ByteArray} {x : Sc} (e : (f S x).2.b = false) : x.b = false := by
  cases q : x.b
  · rfl
  · rw [h.bad S x q, q] at e; cases e
theorem gd_W (ws : List ByteArray) : Gk (yW ws) := by
  constructor
  · rintro S ⟨k, b⟩ hk
    cases b
    · exact wdK_le hk ws
    · exact ⟨Nat.le_refl _, hk⟩
  · rintro S ⟨k, b⟩ hb
    obtain rfl : b = true := hb
    rfl
theorem gd_N : Gk yNu := by
  constructor
  · rintro S ⟨k, b⟩ hk
    cases b
    · exact nuK_le S k hk
    · exact ⟨Nat.le_refl _, hk⟩
  · rintro S ⟨k, b⟩ hb
    obtain rfl : b = true := hb
    rfl
theorem gd_I : Gk yI := by
  constructor
  · rintro S ⟨k, b⟩ hk
    cases b
    · exact ⟨Nat.le_add_right _ _, (idL_le S k hk).2⟩
    · exact ⟨Nat.le_refl _, hk⟩
  · rintro S ⟨k, b⟩ hb
    obtain rfl : b = true := hb
    rfl
theorem gd_R {α : Type} (a : α) : Gk (yR a) := ⟨fun _ _ h => ⟨Nat.le_refl _, h⟩, fun _ _ _ => rfl⟩
theorem gd_B {α β : Type} {f : Prs α} {g : α → Prs β} (hf : Gk f) (hg : ∀ a, Gk (g a)) : Gk (yB f g) := by
  constructor
  · intro S x hk
    obtain ⟨a, b⟩ := hf.le S x hk
    obtain ⟨c, d⟩ := (hg (f S x).1).le S (f S x).2 b
    exact ⟨Nat.le_trans a c, d⟩
  · intro S x hb
    have e := hf.bad S x hb
    show (g (f S x).1 S (f S x).2).2 = x
    rw [e]
    exact (hg _).bad S x hb

/-- S and T have the first k bytes in common; behind them S ends, or goes on with a byte that no text has. -/
structure Agr (S T : ByteArray) (k : Nat) : Prop where
  hS : k ≤ S.size
  hT : k ≤ T.size
  eq : ∀ i, i < k → bt S i = bt T i
  dead : k < S.size → bt S k = 33
/-- No word has the byte 33. -/
def No33 (ws : List ByteArray) : Prop := ∀ w ∈ ws, ∀ i, i < w.size → bt w i ≠ 33
def no33B (ws : List ByteArray) : Bool := ws.all fun w => (List.range w.size).all fun i => !decide (bt w i = 33)
theorem no33_of {ws : List ByteArray} (h : no33B ws = true) : No33 ws := by
  intro w hw i hi e
  have h1 := List.all_eq_true.1 h w hw
  have h2 := List.all_eq_true.1 h1 i (List.mem_range.2 hi)
  rw [dtrue e] at h2
  cases h2
section
variable {S T : ByteArray} {k : Nat}
theorem cm_agr (A : Agr S T k) {j : Nat} (hj : j ≤ k) {w : ByteArray} (hw : ∀ i, i < w.size → bt w i ≠ 33) : cm S j w = min (cm T j w) (k - j) := by
  obtain ⟨a1, a2, a3⟩ := cm_spec T j w
  have hs := A.hS
  refine cm_eq (by omega) (fun i hi => ?_) ?_
  · have := a2 i (by omega)
    exact ⟨by omega, by rw [A.eq (j + i) (by omega)]; exact this.2⟩
  · by_cases c : cm T j w ≤ k - j
    · rw [Nat.min_eq_left c]
      rcases a3 with e | e
      · exact .inl e
      · by_cases d : cm T j w = w.size
        · exact .inl d
        · right
          rintro ⟨g1, g2⟩
          by_cases q : j + cm T j w < k
          · exact e ⟨by have := A.hT; omega, by rw [← A.eq _ q]; exact g2⟩
          · have ek : j + cm T j w = k := by omega
            rw [ek] at g1 g2
            rw [A.dead g1] at g2
            exact hw _ (by omega) g2.symm
    · rw [Nat.min_eq_right (by omega)]
      right
      rintro ⟨g1, g2⟩
      have ek : j + (k - j) = k := by omega
      rw [ek] at g1 g2
      rw [A.dead g1] at g2
      exact hw _ (by omega) g2.symm
theorem dgs_agr (A : Agr S T k) {i n : Nat} (hi : i ≤ k) : dgs S i n = min (dgs T i n) (k - i) := by
  have h1 := dgs_le T i n
  have h2 := dgs_all T n i
  have h3 := dgs_end T n i
  have hs := A.hS
  refine dgs_eq (by omega) (fun j hj => ?_) ?_
  · have q := dg_iff.1 (h2 j (by omega))
    have e := A.eq (i + j) (by omega)
    exact dg_iff.2 ⟨by omega, by rw [e]; exact q.2.1, by rw [e]; exact q.2.2⟩
  · have dd : dg S k = false := dg_no fun h => by have := A.dead h.1; omega
    by_cases c : dgs T i n ≤ k - i
    · rw [Nat.min_eq_left c]
      rcases h3 with e | e
      · exact .inl e
      · right
        by_cases q : i + dgs T i n < k
        · have e2 := A.eq _ q
          refine dg_no fun g => ?_
          have hT := A.hT
          rw [dg_iff.2 ⟨by omega, by rw [← e2]; exact g.2.1, by rw [← e2]; exact g.2.2⟩] at e
          cases e
        · rw [show i + dgs T i n = k by omega]; exact dd
    · rw [Nat.min_eq_right (by omega), show i + (k - i) = k by omega]
      exact .inr dd
theorem idL_agr (A : Agr S T k) {j : Nat} (hj : j ≤ k) : idL S j = min (idL T j) (k - j) := by
  obtain ⟨h1, h2⟩ := idL_all T j
  have hs := A.hS
  have hT := A.hT
  have bf : ∀ i, j + i ≤ k → bfo S j i = bfo T j i := fun i hi => by
    unfold bfo
    by_cases q : i = 0
    · rw [if_pos q, if_pos q]
    · rw [if_neg q, if_neg q, A.eq _ (by omega)]
  refine idL_eq (fun i hi => ?_) ?_
  · obtain ⟨a, b, c⟩ := h1 i (by omega)
    refine ⟨by omega, b, ?_⟩
    rw [A.eq _ (by omega), bf i (by omega)]
    exact c
  · have dd : ¬ idP S j (k - j) := fun g => by
      obtain ⟨a, b, c⟩ := g
      rw [show j + (k - j) = k by omega] at a c
      rw [A.dead a] at c
      omega
    by_cases c : idL T j ≤ k - j
    · rw [Nat.min_eq_left c]
      by_cases q : j + idL T j < k
      · intro g
        obtain ⟨a, b, c⟩ := g
        refine h2 ⟨by omega, b, ?_⟩
        rw [← A.eq _ q, ← bf _ (by omega)]
        exact c
      · rw [show idL T j = k - j by omega]; exact dd
    · rw [Nat.min_eq_right (by omega)]
      exact dd
end
section
variable (S T : ByteArray) (k : Nat)
/-- As long as T is read without a failure, S is read alike, or is stuck at k. -/
def SmW {α : Type} (f : Prs α) : Prop := ∀ x : Sc, x.b = false → x.k ≤ k → (f T x).2.b = false → ((f T x).2.k ≤ k ∧ f S x = f T x) ∨ (k < (f T x).2.k ∧ (f S x).2.k = k)
/-- .. or has failed at k. -/
def SmB {α : Type} (f : Prs α) : Prop := ∀ x : Sc, x.b = false → x.k ≤ k → (f T x).2.b = false → ((f T x).2.k ≤ k ∧ f S x = f T x) ∨ (k < (f T x).2.k ∧ (f S x).2 = ⟨k, true⟩)
def KpW {α : Type} (f : Prs α) : Prop := ∀ x : Sc, x.k = k → (f S x).2.k = k
def KpB {α : Type} (f : Prs α) : Prop := ∀ x : Sc, x.k = k → (f S x).2 = ⟨k, true⟩
variable {S T k}
theorem SmB.w {α : Type} {f : Prs α} (h : SmB S T k f) : SmW S T k f := fun x h1 h2 h3 => (h x h1 h2 h3).imp id fun ⟨a, b⟩ => ⟨a, by rw [b]⟩
theorem KpB.w {α : Type} {f : Prs α} (h : KpB S k f) : KpW S k f := fun x h1 => by rw [h x h1]
theorem smB_R {α : Type} (a : α) : SmB S T k (yR a) := fun _ _ h _ => .inl ⟨h, rfl⟩
theorem kpW_R {α : Type} (a : α) : KpW S k (yR a) := fun _ h => h
theorem smB_B {α β : Type} {f : Prs α} {g : α → Prs β} (hf : SmB S T k f) (hg : ∀ a, SmB S T k (g a)) (G : ∀ a, Gk (g a)) (hT : k ≤ T.size) (Gf : Gk f) : SmB S T k (yB f g) := by
  intro x h1 h2 h3
  have hb : (f T x).2.b = false := (G _).ok h3
  rcases hf x h1 h2 hb with ⟨a, e⟩ | ⟨a, e⟩
  · have := hg (f T x).1 (f T x).2 hb a h3
    show _ ∨ (_ ∧ (g (f S x).1 S (f S x).2).2 = _)
    rw [show yB f g S x = g (f S x).1 S (f S x).2 from rfl, e]
    exact this
  · right
    have l1 := (Gf.le T x (by omega)).2
    have l2 := ((G (f T x).1).le T (f T x).2 l1).1
    refine ⟨Nat.lt_of_lt_of_le a l2, ?_⟩
    show (g (f S x).1 S (f S x).2).2 = _
    rw [e]
    exact (G _).bad S _ rfl
theorem smB_Bw {α β : Type} {f : Prs α} {g : α → Prs β} (hf : SmW S T k f) (hg : ∀ a, SmB S T k (g a)) (K : ∀ a, KpB S k (g a)) (G : ∀ a, Gk (g a)) (hT : k ≤ T.size) (Gf : Gk f) : SmB S T k (yB f g) := by
  intro x h1 h2 h3
  have hb : (f T x).2.b = false := (G _).ok h3
  rcases hf x h1 h2 hb with ⟨a, e⟩ | ⟨a, e⟩
  · have := hg (f T x).1 (f T x).2 hb a h3
    show _ ∨ (_ ∧ (g (f S x).1 S (f S x).2).2 = _)
    rw [show yB f g S x = g (f S x).1 S (f S x).2 from rfl, e]
    exact this
  · right
    have l1 := (Gf.le T x (by omega)).2
    have l2 := ((G (f T x).1).le T (f T x).2 l1).1
    refine ⟨Nat.lt_of_lt_of_le a l2, ?_⟩
    exact K (f S x).1 (f S x).2 e
theorem kpB_B {α β : Type} {f : Prs α} {g : α → Prs β} (hf : KpB S k f) (G : ∀ a, Gk (g a)) : KpB S k (yB f g) := fun x h => by
  show (g (f S x).1 S (f S x).2).2 = _
  rw [hf x h]
  exact (G _).bad S _ rfl
theorem kpB_Bw {α β : Type} {f : Prs α} {g : α → Prs β} (hf : KpW S k f) (K : ∀ a, KpB S k (g a)) : KpB S k (yB f g) := fun x h => K (f S x).1 (f S x).2 (hf x h)
theorem kpB_W (A : Agr S T k) {ws : List ByteArray} (hw : Wok ws) (h3 : No33 ws) : KpB S k (yW ws) := by
  rintro ⟨j, b⟩ hj
  obtain rfl : j = k := hj
  cases b
  · have c0 : ∀ w ∈ ws, cm S j w = 0 := fun w h => by rw [cm_agr A (Nat.le_refl _) (h3 w h)]; omega
    have e : wdF S j ws = none := wdF_is_none fun i hi => dfalse (by rw [c0 _ (getD_mem hi)]; have := hw.1 i hi; omega)
    have m0 : mxW S j ws = 0 := Nat.le_antisymm (mxW_le fun w h => by rw [c0 w h]; exact Nat.le_refl _) (Nat.zero_le _)
    show (Sc.mk (wdK S j ws) (false || wdB S j ws)) = _
    unfold wdK wdB
    rw [e, m0]
    rfl
  · rfl
theorem smB_W (A : Agr S T k) {ws : List ByteArray} (hw : Wok ws) (h3 : No33 ws) : SmB S T k (yW ws) := by
  rintro ⟨j, b⟩ hb hj hT
  obtain rfl : b = false := hb
  replace hj : j ≤ k := hj
  replace hT : (false || wdB T j ws) = false := hT
  cases e : wdF T j ws with
  | none => unfold wdB at hT; rw [e] at hT; cases hT
  | some i =>
    obtain ⟨i1, i2, i3⟩ := wdF_some e
    have l1 := hw.1 i i1
    have ci : cm T j (ws.getD i ByteArray.empty) = (ws.getD i ByteArray.empty).size := of_decide_eq_true i2
    have cc : ∀ n, n < ws.length → cm S j (ws.getD n ByteArray.empty) = min (cm T j (ws.getD n ByteArray.empty)) (k - j) := fun n hn => cm_agr A hj (h3 _ (getD_mem hn))
    have eT : yW ws T ⟨j, false⟩ = ((i : Int), ⟨j + (ws.getD i ByteArray.empty).size, false⟩) := by
      show ((wdI T j ws, (⟨wdK T j ws, false || wdB T j ws⟩ : Sc)) : Int × Sc) = _
      unfold wdI wdK wdB
      rw [e]; rfl
    rw [eT]
    by_cases c : j + (ws.getD i ByteArray.empty).size ≤ k
    · left
      refine ⟨c, ?_⟩
      have eS : wdF S j ws = some i := wdF_is i1 (dtrue (by rw [cc i i1, ci]; omega)) fun n hn => by
        have q := i3 n hn
        refine dfalse fun g => ?_
        have := cc n (by omega)
        have a2 := (cm_spec T j (ws.getD n ByteArray.empty)).1
        have : cm T j (ws.getD n ByteArray.empty) = (ws.getD n ByteArray.empty).size := by omega
        unfold hitB at q
        rw [dtrue this] at q
        cases q
      show ((wdI S j ws, (⟨wdK S j ws, false || wdB S j ws⟩ : Sc)) : Int × Sc) = _
      unfold wdI wdK wdB
      rw [eS]; rfl
    · right
      refine ⟨Nat.lt_of_not_le c, ?_⟩
      have eS : wdF S j ws = none := wdF_is_none fun n hn => dfalse fun g => by
        have h1 := cc n hn
        have h2 := (cm_spec T j (ws.getD n ByteArray.empty)).1
        have h4 : cm T j (ws.getD n ByteArray.empty) = (ws.getD n ByteArray.empty).size := by omega
        have h5 : n = i := wok_one hw hn i1 (dtrue h4) (by rw [ci]; omega)
        subst h5
        omega
      have m0 : mxW S j ws = k - j := Nat.le_antisymm (mxW_le fun w h => by rw [cm_agr A hj (h3 w h)]; omega) (by have := mxW_ge (S := S) (k := j) (getD_mem i1); rw [cc i i1, ci] at this; omega)
      show (Sc.mk (wdK S j ws) (false || wdB S j ws)) = _
      unfold wdK wdB
      rw [eS, m0]
      show Sc.mk (j + (k - j)) true = _
      rw [show j + (k - j) = k by omega]
theorem nu_dead (A : Agr S T k) : nuZ S k = false ∧ nuN S k = false ∧ nuI S k = k ∧ nuD S k = false := by
  have dd : dg S k = false := dg_no fun h => by have := A.dead h.1; omega
  have hz : nuZ S k = false := by
    unfold nuZ
    by_cases c : k < S.size
    · rw [A.dead c]; simp
    · rw [dfalse c]; rfl
  have hn : nuN S k = false := by
    unfold nuN
    by_cases c : k < S.size
    · rw [A.dead c]; simp
    · rw [dfalse c]; rfl
  have eI : nuI S k = k := by unfold nuI; rw [hn]; rfl
  exact ⟨hz, hn, eI, by unfold nuD; rw [eI, dd]; rfl⟩
theorem kpW_N (A : Agr S T k) : KpW S k yNu := by
  rintro ⟨j, b⟩ hj
  obtain rfl : j = k := hj
  cases b
  · obtain ⟨hz, _, eI, hd⟩ := nu_dead A
    show nuK S j = j
    unfold nuK
    rw [hz, hd, eI]; rfl
  · rfl
theorem smW_N (A : Agr S T k) : SmW S T k yNu := by
  rintro ⟨j, b⟩ hb hj hT
  obtain rfl : b = false := hb
  replace hj : j ≤ k := hj
  replace hT : (false || nuB T j) = false := hT
  rw [Bool.false_or] at hT
  have sS := A.hS
  have sT := A.hT
  by_cases hjk : j = k
  · subst hjk
    have h1 := kpW_N A ⟨j, false⟩ rfl
    have h2 := (nuK_le T j A.hT).1
    right
    refine ⟨?_, h1⟩
    show j < nuK T j
    cases hz : nuZ T j
    · cases hd : nuD T j
      · unfold nuB at hT; rw [hz, hd] at hT; cases hT
      · unfold nuK; rw [hz, hd]
        show j < nuI T j + dgs T (nuI T j) 10
        have d1 : dg T (nuI T j) = true := by unfold nuD at hd; simp only [Bool.and_eq_true] at hd; exact hd.1
        have m1 : 1 ≤ dgs T (nuI T j) 10 := by
          show 1 ≤ if dg T (nuI T j) then dgs T (nuI T j + 1) 9 + 1 else 0
          rw [d1, if_pos rfl]; omega
        have : j ≤ nuI T j := by unfold nuI; split <;> omega
        omega
    · unfold nuK; rw [hz]; exact Nat.lt_succ_self j
  · have hlt : j < k := by omega
    have e0 := A.eq j hlt
    have z0 : nuZ S j = nuZ T j := by unfold nuZ; rw [e0, dtrue (show j < S.size by omega), dtrue (show j < T.size by omega)]
    have n0 : nuN S j = nuN T j := by unfold nuN; rw [e0, dtrue (show j < S.size by omega), dtrue (show j < T.size by omega)]
    have i0 : nuI S j = nuI T j := by unfold nuI; rw [n0]
    cases hz : nuZ T j
    · cases hd : nuD T j
      · unfold nuB at hT; rw [hz, hd] at hT; cases hT
      · have hi : nuI T j ≤ k := by unfold nuI; split <;> omega
        have eKT : nuK T j = nuI T j + dgs T (nuI T j) 10 := by unfold nuK; rw [hz, hd]; rfl
        have dT : dg T (nuI T j) = true ∧ ¬ bt T (nuI T j) = 48 := by unfold nuD at hd; simpa using hd
        have m1 : 1 ≤ dgs T (nuI T j) 10 := by
          show 1 ≤ if dg T (nuI T j) then dgs T (nuI T j + 1) 9 + 1 else 0
          rw [dT.1, if_pos rfl]; omega
        by_cases hik : nuI T j = k
        · have dd : dg S k = false := dg_no fun h => by have := A.dead h.1; omega
          right
          refine ⟨by show k < nuK T j; omega, ?_⟩
          show nuK S j = k
          unfold nuK nuD
          rw [z0, hz, i0, hik, dd]; rfl
        · have e1 := A.eq (nuI T j) (by omega)
          have g := dg_iff.1 dT.1
          have dS : nuD S j = true := by
            unfold nuD
            rw [i0, dg_iff.2 ⟨by omega, by rw [e1]; exact g.2.1, by rw [e1]; exact g.2.2⟩, e1, dfalse dT.2]; rfl
          have da := dgs_agr A hi (n := 10)
          have eKS : nuK S j = nuI T j + dgs S (nuI T j) 10 := by unfold nuK; rw [z0, hz, dS, i0]; rfl
          by_cases c : nuK T j ≤ k
          · left
            refine ⟨c, ?_⟩
            have ed : dgs S (nuI T j) 10 = dgs T (nuI T j) 10 := by omega
            show ((nuV S j, (⟨nuK S j, false || nuB S j⟩ : Sc)) : Int × Sc) = (nuV T j, ⟨nuK T j, false || nuB T j⟩)
            have v0 : nuV S j = nuV T j := by
              unfold nuV
              rw [z0, hz, dS, hd, n0, i0, ed]
              have : vl S (nuI T j) (dgs T (nuI T j) 10) = vl T (nuI T j) (dgs T (nuI T j) 10) := vl_pre fun q hq => A.eq _ (by omega)
              rw [this]
            have b0 : nuB S j = nuB T j := by unfold nuB; rw [z0, dS, hd]
            rw [v0, b0, eKS, eKT, ed]
          · right
            refine ⟨Nat.lt_of_not_le c, ?_⟩
            show nuK S j = k
            omega
    · left
      have eT : nuK T j = j + 1 := by unfold nuK; rw [hz]; rfl
      have eS : nuK S j = j + 1 := by unfold nuK; rw [z0, hz]; rfl
      refine ⟨by show nuK T j ≤ k; omega, ?_⟩
      show ((nuV S j, (⟨nuK S j, false || nuB S j⟩ : Sc)) : Int × Sc) = (nuV T j, ⟨nuK T j, false || nuB T j⟩)
      have v0 : nuV S j = nuV T j := by unfold nuV; rw [z0, hz]; rfl
      have b0 : nuB S j = nuB T j := by unfold nuB; rw [z0, hz]; rfl
      rw [v0, b0, eT, eS]
theorem kpW_I (A : Agr S T k) : KpW S k yI := by
  rintro ⟨j, b⟩ hj
  obtain rfl : j = k := hj
  cases b
  · show j + idL S j = j
    have := idL_agr A (Nat.le_refl j)
    omega
  · rfl
theorem smW_I (A : Agr S T k) : SmW S T k yI := by
  rintro ⟨j, b⟩ hb hj hT
  obtain rfl : b = false := hb
  replace hj : j ≤ k := hj
  have sS := A.hS
  have sT := A.hT
  have ia := idL_agr A hj
  have iT := idL_le T j (by omega)
  by_cases c : j + idL T j ≤ k
  · left
    refine ⟨c, ?_⟩
    have ei : idL S j = idL T j := by omega
    have bS : idB S j = idB T j := by
      unfold idB bfo
      rw [ei]
      by_cases q : idL T j = 0
      · rw [if_pos q, if_pos q]
      · rw [if_neg q, if_neg q, A.eq _ (by omega)]
    have ex : S.extract j (j + idL T j) = T.extract j (j + idL T j) := bt_inj (by rw [ext_size (by omega) (by omega), ext_size (by omega) (by omega)]) fun q hq => by
      rw [ext_size (by omega) (by omega)] at hq
      rw [bt_ext (by omega), bt_ext (by omega), A.eq _ (by omega)]
    show ((idV S j, (⟨j + idL S j, false || idB S j⟩ : Sc)) : ByteArray × Sc) = (idV T j, ⟨j + idL T j, false || idB T j⟩)
    unfold idV
    rw [bS, ei, ex]
  · right
    refine ⟨Nat.lt_of_not_le c, ?_⟩
    show j + idL S j = k
    omega
/-- The next byte behind the place where a text is dead is none of those that are asked for. -/
theorem pk_dead (A : Agr S T k) {c : Int} (h0 : c ≠ 0) (h33 : c ≠ 33) (b : Bool) : fpV b S k ≠ c := by
  cases b
  · show nxB S k ≠ c
    by_cases q : k < S.size
    · rw [nx_lt q, A.dead q]; exact fun e => h33 e.symm
    · have : nxB S k = 0 := by unfold nxB; rw [if_neg q]
      rw [this]; exact fun e => h0 e.symm
  · exact fun e => h0 e.symm
theorem pk_same (A : Agr S T k) {j : Nat} (hj : j < k) : nxB S j = nxB T j := by
  rw [nx_lt (by have := A.hS; omega), nx_lt (by have := A.hT; omega), A.eq j hj]
end
end Go.Proofs.YtkhicgafhbecfaaGreatDoor

namespace Go.Proofs.YtkhicgafhbecfaaGreatDoor
open Go.RowKit

def wSp : ByteArray := ⟨#[32]⟩
def wLf : ByteArray := ⟨#[10]⟩
def wCat : ByteArray := ⟨#[99, 97, 116, 97, 108, 111, 103, 117, 101, 10]⟩
def wFre : ByteArray := ⟨#[102, 114, 101, 101, 32]⟩
def wSea : ByteArray := ⟨#[115, 101, 97, 115, 111, 110, 32]⟩
def wFea : ByteArray := ⟨#[102, 101, 97, 115, 116, 32]⟩
def wEnd : ByteArray := ⟨#[101, 110, 100, 10]⟩
def wCaf : ByteArray := ⟨#[99, 97, 116, 97, 108, 111, 103, 117, 101, 10, 102, 114, 101, 101]⟩
def wSe5 : ByteArray := ⟨#[115, 101, 97, 115, 111, 110]⟩
def wFe5 : ByteArray := ⟨#[102, 101, 97, 115, 116]⟩
def lAn : List ByteArray := [⟨#[102, 105, 120, 101, 100]⟩, ⟨#[101, 97, 115, 116, 101, 114]⟩, ⟨#[110, 116, 104]⟩]
def lPo : List ByteArray := [⟨#[116, 114, 97, 110, 115, 102, 101, 114]⟩, ⟨#[99, 111, 109, 109, 101, 109, 111, 114, 97, 116, 101]⟩, ⟨#[111, 109, 105, 116]⟩]
def lWd : List ByteArray := [⟨#[115, 117, 110, 100, 97, 121]⟩, ⟨#[109, 111, 110, 100, 97, 121]⟩, ⟨#[116, 117, 101, 115, 100, 97, 121]⟩, ⟨#[119, 101, 100, 110, 101, 115, 100, 97, 121]⟩, ⟨#[116, 104, 117, 114, 115, 100, 97, 121]⟩, ⟨#[102, 114, 105, 100, 97, 121]⟩, ⟨#[115, 97, 116, 117, 114, 100, 97, 121]⟩]
theorem wds_wSp : Wds [wSp] := wds_of (by kernel_rfl) (by kernel_rfl) (by kernel_rfl) (by kernel_rfl)
theorem wds_wLf : Wds [wLf] := wds_of (by kernel_rfl) (by kernel_rfl) (by kernel_rfl) (by kernel_rfl)
theorem wds_wCat : Wds [wCat] := wds_of (by kernel_rfl) (by kernel_rfl) (by kernel_rfl) (by kernel_rfl)
theorem wds_wFre : Wds [wFre] := wds_of (by kernel_rfl) (by kernel_rfl) (by kernel_rfl) (by kernel_rfl)
theorem wds_wSea : Wds [wSea] := wds_of (by kernel_rfl) (by kernel_rfl) (by kernel_rfl) (by kernel_rfl)
theorem wds_wFea : Wds [wFea] := wds_of (by kernel_rfl) (by kernel_rfl) (by kernel_rfl) (by kernel_rfl)
theorem wds_wEnd : Wds [wEnd] := wds_of (by kernel_rfl) (by kernel_rfl) (by kernel_rfl) (by kernel_rfl)
theorem wds_wCaf : Wds [wCaf] := wds_of (by kernel_rfl) (by kernel_rfl) (by kernel_rfl) (by kernel_rfl)
theorem wds_wSe5 : Wds [wSe5] := wds_of (by kernel_rfl) (by kernel_rfl) (by kernel_rfl) (by kernel_rfl)
theorem wds_wFe5 : Wds [wFe5] := wds_of (by kernel_rfl) (by kernel_rfl) (by kernel_rfl) (by kernel_rfl)
theorem wds_lAn : Wds lAn := wds_of (by kernel_rfl) (by kernel_rfl) (by kernel_rfl) (by kernel_rfl)
theorem wds_lPo : Wds lPo := wds_of (by kernel_rfl) (by kernel_rfl) (by kernel_rfl) (by kernel_rfl)
theorem wds_lWd : Wds lWd := wds_of (by kernel_rfl) (by kernel_rfl) (by kernel_rfl) (by kernel_rfl)
theorem n33_wSp : No33 [wSp] := no33_of (by kernel_rfl)
theorem n33_wLf : No33 [wLf] := no33_of (by kernel_rfl)
theorem n33_wCat : No33 [wCat] := no33_of (by kernel_rfl)
theorem n33_wFre : No33 [wFre] := no33_of (by kernel_rfl)
theorem n33_wSea : No33 [wSea] := no33_of (by kernel_rfl)
theorem n33_wFea : No33 [wFea] := no33_of (by kernel_rfl)
theorem n33_wEnd : No33 [wEnd] := no33_of (by kernel_rfl)
theorem n33_wCaf : No33 [wCaf] := no33_of (by kernel_rfl)
theorem n33_wSe5 : No33 [wSe5] := no33_of (by kernel_rfl)
theorem n33_wFe5 : No33 [wFe5] := no33_of (by kernel_rfl)
theorem n33_lAn : No33 lAn := no33_of (by kernel_rfl)
theorem n33_lPo : No33 lPo := no33_of (by kernel_rfl)
theorem n33_lWd : No33 lWd := no33_of (by kernel_rfl)

theorem lies_join {S : ByteArray} {k : Nat} {a b : ByteArray} (h1 : LiesAt S k a) (h2 : LiesAt S (k + a.size) b) : LiesAt S k (a ++ b) := by
  intro j hj
  rw [ByteArray.size_append] at hj
  rw [bt_app]
  by_cases q : j < a.size
  · rw [if_pos q]; exact h1 j q
  · rw [if_neg q]
    have := h2 (j - a.size) (by omega)
    rw [show k + a.size + (j - a.size) = k + j by omega] at this
    exact this
structure Rd {α : Type} (f : Prs α) (pr : α → ByteArray) (ok : α → Prop) : Prop where
  so : ∀ S x, x.k ≤ S.size → (f S x).2.b = false → ok (f S x).1 ∧ LiesAt S x.k (pr (f S x).1) ∧ (f S x).2.k = x.k + (pr (f S x).1).size
  co : ∀ S k v, k ≤ S.size → ok v → LiesAt S k (pr v) → f S ⟨k, false⟩ = (v, ⟨k + (pr v).size, false⟩)
theorem rd_R {α : Type} (a : α) : Rd (yR a) (fun _ => ByteArray.empty) (fun v => v = a) := by
  constructor
  · intro S x _ _
    exact ⟨rfl, fun j hj => absurd hj (Nat.not_lt_zero j), rfl⟩
  · rintro S k v _ rfl _
    rfl
theorem rd_B {α β : Type} {f : Prs α} {g : α → Prs β} {pf : α → ByteArray} {pg : β → ByteArray} {okf : α → Prop} {okg : α → β → Prop} (p : β → α) (hf : Rd f pf okf) (hg : ∀ a, okf a → Rd (g a) pg (okg a)) (hp : ∀ a v, okg a v → p v = a) (Gf : Gk f) (Gg : ∀ a, Gk (g a)) :
    Rd (yB f g) (fun v => pf (p v) ++ pg v) (fun v => okf (p v) ∧ okg (p v) v) := by
  constructor
  · intro S x hx hb
    have h1 : (f S x).2.b = false := (Gg _).ok hb
    obtain ⟨a1, a2, a3⟩ := hf.so S x hx h1
    have hk := (Gf.le S x hx).2
    obtain ⟨b1, b2, b3⟩ := (hg _ a1).so S (f S x).2 hk hb
    have e := hp _ _ b1
    show (okf (p (g (f S x).1 S (f S x).2).1) ∧ _) ∧ LiesAt S x.k (pf (p (g (f S x).1 S (f S x).2).1) ++ pg (g (f S x).1 S (f S x).2).1) ∧ (g (f S x).1 S (f S x).2).2.k = _
    rw [e]
    refine ⟨⟨a1, ?_⟩, ?_, ?_⟩
    · show okg (p (g (f S x).1 S (f S x).2).1) _
      rw [e]; exact b1
    · rw [a3] at b2; exact lies_join a2 b2
    · show _ = x.k + (pf (p (g (f S x).1 S (f S x).2).1) ++ pg (g (f S x).1 S (f S x).2).1).size
      rw [e, b3, a3, ByteArray.size_append, Nat.add_assoc]
  · rintro S k v hk ⟨o1, o2⟩ hl
    obtain ⟨l1, l2⟩ := lies_app hl
    have e1 := hf.co S k (p v) hk o1 l1
    have e2 := (hg _ o1).co S (k + (pf (p v)).size) v (l1.len hk) o2 l2
    show g (f S ⟨k, false⟩).1 S (f S ⟨k, false⟩).2 = _
    rw [e1]
    show g (p v) S ⟨k + (pf (p v)).size, false⟩ = _
    rw [e2, ByteArray.size_append, Nat.add_assoc]
theorem Rd.to {α : Type} {f : Prs α} {pr pr' : α → ByteArray} {ok ok' : α → Prop} (h : Rd f pr ok) (h1 : ∀ v, ok' v ↔ ok v) (h2 : ∀ v, ok v → pr' v = pr v) : Rd f pr' ok' := by
  constructor
  · intro S x hx hb
    obtain ⟨a, b, c⟩ := h.so S x hx hb
    rw [h2 _ a]
    exact ⟨(h1 _).2 a, b, c⟩
  · intro S k v hk ho hl
    have o := (h1 _).1 ho
    rw [h2 _ o] at hl ⊢
    exact h.co S k v hk o hl
theorem rd_W {ws : List ByteArray} (hw : Wok ws) : Rd (yW ws) (fun i => ws.getD i.toNat ByteArray.empty) (fun i => 0 ≤ i ∧ i < ws.length) := by
  constructor
  · rintro S ⟨k, b⟩ hx hb
    obtain rfl : b = false := (gd_W ws).ok hb
    replace hb : (false || wdB S k ws) = false := hb
    cases e : wdF S k ws with
    | none => unfold wdB at hb; rw [e] at hb; cases hb
    | some i =>
      obtain ⟨i1, i2⟩ := at_wd e
      have eT : yW ws S ⟨k, false⟩ = ((i : Int), ⟨k + (ws.getD i ByteArray.empty).size, false⟩) := by
        show ((wdI S k ws, (⟨wdK S k ws, false || wdB S k ws⟩ : Sc)) : Int × Sc) = _
        unfold wdI wdK wdB
        rw [e]; rfl
      rw [eT]
      exact ⟨⟨by show (0 : Int) ≤ i; omega, by show (i : Int) < ws.length; omega⟩, by show LiesAt S k (ws.getD (i : Int).toNat _); rw [Int.toNat_natCast]; exact i2, by show k + _ = k + _; rw [Int.toNat_natCast]⟩
  · rintro S k v hk ⟨h1, h2⟩ hl
    obtain ⟨i, rfl⟩ : ∃ i : Nat, v = i := ⟨v.toNat, by omega⟩
    rw [Int.toNat_natCast] at hl ⊢
    have e := wd_at hw (show i < ws.length by omega) hl
    show ((wdI S k ws, (⟨wdK S k ws, false || wdB S k ws⟩ : Sc)) : Int × Sc) = _
    unfold wdI wdK wdB
    rw [e]; rfl
theorem rd_W1 {w : ByteArray} (hw : Wok [w]) : Rd (yW [w]) (fun _ => w) (fun i => i = 0) :=
  (rd_W hw).to (fun v => by show v = 0 ↔ (0 ≤ v ∧ v < 1); omega) (fun v h => by
    have h : 0 ≤ v ∧ v < 1 := h
    obtain rfl : v = 0 := by omega
    rfl)
def dcF : Nat → Nat → ByteArray
  | 0, _ => ByteArray.empty
  | f + 1, n => if n < 10 then dgS.extract n (n + 1) else dcF f (n / 10) ++ dgS.extract (n % 10) (n % 10 + 1)
theorem dcF_ok : ∀ (f n : Nat), 1 ≤ f → (n : Int) < pw f → n < 10000000000 → DecOk n (dcF f n) := by
  intro f
  induction f with
  | zero => intro n h _ _; omega
  | succ f ih =>
    intro n _ hn h9
    unfold dcF
    by_cases c : n < 10
    · rw [if_pos c]; exact dec_one c
    · rw [if_neg c]
      have e : pw (f + 1) = 10 * pw f := rfl
      have f1 : 1 ≤ f := by
        rcases Nat.eq_zero_or_pos f with q | q
        · subst q
          have : pw 0 = 1 := rfl
          omega
        · exact q
      exact dec_more (by omega) h9 (ih (n / 10) f1 (by omega) (by omega))
def inT (n : Int) : Bool := decide (-9999999999 ≤ n) && decide (n ≤ 9999999999)
theorem inT_iff {n : Int} : inT n = true ↔ -9999999999 ≤ n ∧ n ≤ 9999999999 := by simp [inT]
theorem dec_of {n : Nat} (h : n < 10000000000) : DecOk n (dcF 10 n) := dcF_ok 10 n (by omega) (by have : pw 10 = 10000000000 := rfl; omega) h
/-- The decimal text of a number in the range of numbers. -/
def itB (n : Int) : ByteArray := if n < 0 then ⟨#[45]⟩ ++ dcF 10 n.natAbs else dcF 10 n.natAbs
theorem itB_pos {n : Nat} : itB (n : Int) = dcF 10 n := by unfold itB; rw [if_neg (by omega), Int.natAbs_natCast]
theorem itB_neg {n : Nat} (h : 1 ≤ n) : itB (-(n : Int)) = ⟨#[45]⟩ ++ dcF 10 n := by unfold itB; rw [if_pos (by omega), Int.natAbs_neg, Int.natAbs_natCast]
theorem dgs_out (n : Nat) : (Lib.decDigits n).length = (Lib.decDigits n).length := rfl
theorem nu_nat {S : ByteArray} {k n : Nat} {D : ByteArray} (hd : DecOk n D) (h1 : 1 ≤ n) (hk : k < S.size) (hm : bt S k = 45) (h : LiesAt S (k + 1) D) (hn : dg S (k + 1 + D.size) = false) : nuB S k = false ∧ nuK S k = k + 1 + D.size ∧ nuV S k = -(n : Int) := by
  obtain ⟨a1, a2, a3⟩ := nu_at hd h hn
  have l1 := hd.l1
  have l0 := dec_lead hd h1
  have b0 := h 0 (by omega)
  rw [Nat.add_zero] at b0
  have z1 : nuZ S (k + 1) = false := by unfold nuZ; rw [b0.2, dfalse (show ¬ bt D 0 = 48 by omega), Bool.and_false]
  have n1 : nuN S (k + 1) = false := by unfold nuN; rw [b0.2, dfalse (show ¬ bt D 0 = 45 by omega), Bool.and_false]
  have i1 : nuI S (k + 1) = k + 1 := by unfold nuI; rw [n1]; rfl
  have d1 : nuD S (k + 1) = true := by
    cases q : nuD S (k + 1)
    · unfold nuB at a1; rw [z1, q] at a1; cases a1
    · rfl
  have z0 : nuZ S k = false := by unfold nuZ; rw [hm]; simp
  have n0 : nuN S k = true := by unfold nuN; rw [hm, dtrue hk]; rfl
  have i0 : nuI S k = k + 1 := by unfold nuI; rw [n0]; rfl
  have d0 : nuD S k = true := by
    unfold nuD at d1 ⊢
    rw [i1] at d1
    rw [i0]; exact d1
  refine ⟨by unfold nuB; rw [z0, d0]; rfl, ?_, ?_⟩
  · unfold nuK at a2 ⊢
    rw [z1, d1, i1] at a2
    rw [z0, d0, i0]; exact a2
  · unfold nuV at a3 ⊢
    rw [z1, d1, n1, i1] at a3
    rw [z0, d0, n0, i0]
    show -vl S (k + 1) _ = _
    have a3 : vl S (k + 1) (dgs S (k + 1) 10) = (n : Int) := a3
    rw [a3]
/-- What ends a number: a word whose first byte is no digit. -/
def NoDg (e : ByteArray) : Prop := 1 ≤ e.size ∧ ¬ (48 ≤ bt e 0 ∧ bt e 0 ≤ 57)
def zN (e : ByteArray) : Prs Int := yB yNu fun n => yB (yW [e]) fun _ => yR n
def zI : Prs ByteArray := yB yI fun s => yB (yW [wSp]) fun _ => yR s
def zC (ws : List ByteArray) : Prs Int := yB (yW ws) fun i => yB (yW [wSp]) fun _ => yR i
theorem gd_zN (e : ByteArray) : Gk (zN e) := gd_B gd_N fun _ => gd_B (gd_W _) fun _ => gd_R _
theorem gd_zI : Gk zI := gd_B gd_I fun _ => gd_B (gd_W _) fun _ => gd_R _
theorem gd_zC (ws : List ByteArray) : Gk (zC ws) := gd_B (gd_W _) fun _ => gd_B (gd_W _) fun _ => gd_R _
theorem nu_ext {S : ByteArray} {k : Nat} (hk : k ≤ S.size) (h : nuB S k = false) : inT (nuV S k) = true ∧ itB (nuV S k) = S.extract k (nuK S k) ∧ k ≤ nuK S k ∧ nuK S k ≤ S.size := by
  have hle := nuK_le S k hk
  have small : ∀ {n : Nat} {D : ByteArray}, DecOk n D → n < 10000000000 := fun {n D} q => by
    have h1 := (vl_lt q.dgt q.l2).2
    rw [q.val] at h1
    omega
  rcases at_nu hk h with ⟨n, e, q⟩ | ⟨n, n1, e, k1, k2, q⟩
  · have hs := small q
    rw [e]
    refine ⟨inT_iff.2 ⟨by omega, by omega⟩, ?_, hle.1, hle.2⟩
    rw [itB_pos]
    exact dec_uniq (dec_of hs) q
  · have hs := small q
    rw [e]
    refine ⟨inT_iff.2 ⟨by omega, by omega⟩, ?_, hle.1, hle.2⟩
    rw [itB_neg n1, dec_uniq (dec_of hs) q]
    have l1 := q.l1
    have hK : k + 1 ≤ nuK S k := by
      rcases Nat.lt_or_ge (nuK S k) (k + 1) with g | g
      · rw [ByteArray.size_extract] at l1; omega
      · exact g
    have sz : (S.extract (k + 1) (nuK S k)).size = nuK S k - (k + 1) := ext_size hK hle.2
    refine bt_inj ?_ fun j hj => ?_
    · rw [ByteArray.size_append, sz, ext_size hle.1 hle.2]; show 1 + _ = _; omega
    · rw [ByteArray.size_append, sz] at hj
      have hj : j < 1 + (nuK S k - (k + 1)) := hj
      have er : bt (S.extract k (nuK S k)) j = bt S (k + j) := bt_ext (by omega)
      rw [bt_app, er]
      by_cases c : j < 1
      · obtain rfl : j = 0 := by omega
        rw [if_pos (show 0 < (ByteArray.mk #[45]).size by decide), Nat.add_zero, k2]; rfl
      · rw [if_neg (show ¬ j < (ByteArray.mk #[45]).size from c)]
        show bt (S.extract (k + 1) (nuK S k)) (j - 1) = _
        rw [bt_ext (by omega), show k + 1 + (j - 1) = k + j by omega]
theorem rd_zN {e : ByteArray} (he : NoDg e) (hw : Wok [e]) : Rd (zN e) (fun n => itB n ++ e) (fun n => inT n = true) := by
  constructor
  · rintro S ⟨k, b⟩ hx hb
    obtain rfl : b = false := (gd_zN e).ok hb
    replace hx : k ≤ S.size := hx
    have h1 : (yNu S ⟨k, false⟩).2.b = false := (gd_B (gd_W [e]) fun _ => gd_R _).ok hb
    have h1' : nuB S k = false := h1
    obtain ⟨a1, a2, a3, a4⟩ := nu_ext hx h1'
    have sz : (itB (nuV S k)).size = nuK S k - k := by rw [a2, ext_size a3 a4]
    obtain ⟨_, b2, b3⟩ := (rd_W1 hw).so S (yNu S ⟨k, false⟩).2 a4 hb
    refine ⟨a1, ?_, ?_⟩
    · show LiesAt S k (itB (nuV S k) ++ e)
      refine lies_join (fun j hj => ?_) ?_
      · rw [sz] at hj
        refine ⟨by omega, ?_⟩
        rw [a2, bt_ext (by omega)]
      · rw [sz, show k + (nuK S k - k) = nuK S k by omega]; exact b2
    · show _ = k + (itB (nuV S k) ++ e).size
      rw [ByteArray.size_append, sz]
      have b3 : (zN e S ⟨k, false⟩).2.k = nuK S k + e.size := b3
      rw [b3]; omega
  · intro S k v hk hv hl
    obtain ⟨l1, l2⟩ := lies_app hl
    obtain ⟨v1, v2⟩ := inT_iff.1 hv
    have he0 := l2 0 (by have := he.1; omega)
    rw [Nat.add_zero] at he0
    have hd : dg S (k + (itB v).size) = false := dg_no fun g => he.2 ⟨by rw [← he0.2]; exact g.2.1, by rw [← he0.2]; exact g.2.2⟩
    have key : nuB S k = false ∧ nuK S k = k + (itB v).size ∧ nuV S k = v := by
      rcases Int.lt_or_le v 0 with c | c
      · obtain ⟨n, rfl⟩ : ∃ n : Nat, v = -(n : Int) := ⟨v.natAbs, by omega⟩
        have n1 : 1 ≤ n := by omega
        rw [itB_neg n1] at l1 hd ⊢
        obtain ⟨m1, m2⟩ := lies_app l1
        have q0 := m1 0 (by decide)
        rw [Nat.add_zero] at q0
        have sz : ((⟨#[45]⟩ : ByteArray) ++ dcF 10 n).size = 1 + (dcF 10 n).size := by rw [ByteArray.size_append]; rfl
        rw [sz] at hd ⊢
        rw [← Nat.add_assoc] at hd ⊢
        exact nu_nat (dec_of (by omega)) n1 q0.1 q0.2 m2 hd
      · obtain ⟨n, rfl⟩ : ∃ n : Nat, v = (n : Int) := ⟨v.toNat, by omega⟩
        rw [itB_pos] at l1 hd ⊢
        exact nu_at (dec_of (by omega)) l1 hd
    obtain ⟨k1, k2, k3⟩ := key
    have eN : yNu S ⟨k, false⟩ = (v, ⟨k + (itB v).size, false⟩) := by
      show ((nuV S k, (⟨nuK S k, false || nuB S k⟩ : Sc)) : Int × Sc) = _
      rw [k1, k2, k3]; rfl
    have eW := (rd_W1 hw).co S (k + (itB v).size) 0 (l1.len hk) rfl l2
    show (yB (yW [e]) fun _ => yR (yNu S ⟨k, false⟩).1) S (yNu S ⟨k, false⟩).2 = _
    rw [eN]
    show yR v S (yW [e] S ⟨k + (itB v).size, false⟩).2 = _
    rw [eW, ByteArray.size_append, Nat.add_assoc]; rfl
theorem rd_zI : Rd zI (fun s => s ++ wSp) (fun s => idn s = true) := by
  constructor
  · rintro S ⟨k, b⟩ hx hb
    obtain rfl : b = false := gd_zI.ok hb
    replace hx : k ≤ S.size := hx
    have h1 : idB S k = false := (gd_B (gd_W [wSp]) fun _ => gd_R _).ok (f := yB (yW [wSp]) fun _ => yR (yI S ⟨k, false⟩).1) hb
    have hL := (idL_le S k hx).2
    have eV : idV S k = S.extract k (k + idL S k) := by unfold idV; rw [h1]; rfl
    have sz : (idV S k).size = idL S k := by rw [eV, ext_size (by omega) hL]; omega
    obtain ⟨_, b2, b3⟩ := (rd_W1 wds_wSp.ok).so S (yI S ⟨k, false⟩).2 hL hb
    refine ⟨?_, ?_, ?_⟩
    · show idn (idV S k) = true
      rw [eV, idn_fin hx, h1]; rfl
    · show LiesAt S k (idV S k ++ wSp)
      refine lies_join (fun j hj => ?_) ?_
      · rw [sz] at hj
        exact ⟨by omega, by rw [eV, bt_ext (by omega)]⟩
      · rw [sz]; exact b2
    · show _ = k + (idV S k ++ wSp).size
      rw [ByteArray.size_append, sz]
      have b3 : (zI S ⟨k, false⟩).2.k = k + idL S k + wSp.size := b3
      rw [b3, Nat.add_assoc]
  · intro S k v hk hv hl
    obtain ⟨l1, l2⟩ := lies_app hl
    have q0 := l2 0 (by decide)
    rw [Nat.add_zero] at q0
    have q1 : bt wSp 0 = 32 := by kernel_rfl
    have hi := id_at hk hv l1 (fun _ => by rw [q0.2, q1]; omega)
    have eV : idV S k = v := by
      unfold idV
      rw [hi.2, hi.1]
      show S.extract k (k + v.size) = v
      have hle := l1.len hk
      refine bt_inj (by rw [ext_size (by omega) hle]; omega) fun j hj => ?_
      rw [ext_size (by omega) hle] at hj
      rw [bt_ext (by omega), (l1 j (by omega)).2]
    have eN : yI S ⟨k, false⟩ = (v, ⟨k + v.size, false⟩) := by
      show ((idV S k, (⟨k + idL S k, false || idB S k⟩ : Sc)) : ByteArray × Sc) = _
      rw [eV, hi.1, hi.2]; rfl
    have eW := (rd_W1 wds_wSp.ok).co S (k + v.size) 0 (l1.len hk) rfl l2
    show (yB (yW [wSp]) fun _ => yR (yI S ⟨k, false⟩).1) S (yI S ⟨k, false⟩).2 = _
    rw [eN]
    show yR v S (yW [wSp] S ⟨k + v.size, false⟩).2 = _
    rw [eW, ByteArray.size_append, Nat.add_assoc]; rfl
/-- A word, then the rest. -/
theorem rd_WB {α : Type} {w : ByteArray} (hw : Wok [w]) {f : Prs α} {pr : α → ByteArray} {ok : α → Prop} (h : Rd f pr ok) (G : Gk f) : Rd (yB (yW [w]) fun _ => f) (fun v => w ++ pr v) ok := by
  constructor
  · intro S x hx hb
    have h1 : (yW [w] S x).2.b = false := G.ok hb
    obtain ⟨_, a2, a3⟩ := (rd_W1 hw).so S x hx h1
    have hk := ((gd_W [w]).le S x hx).2
    obtain ⟨b1, b2, b3⟩ := h.so S (yW [w] S x).2 hk hb
    refine ⟨b1, ?_, ?_⟩
    · rw [a3] at b2; exact lies_join a2 b2
    · show (f S (yW [w] S x).2).2.k = x.k + (w ++ pr (f S (yW [w] S x).2).1).size
      rw [b3, a3, ByteArray.size_append, Nat.add_assoc]
  · intro S k v hk ho hl
    obtain ⟨l1, l2⟩ := lies_app hl
    have e1 := (rd_W1 hw).co S k 0 hk rfl l1
    show f S (yW [w] S ⟨k, false⟩).2 = _
    rw [e1]
    show f S ⟨k + w.size, false⟩ = _
    rw [h.co S _ v (l1.len hk) ho l2, ByteArray.size_append, Nat.add_assoc]
theorem rd_zC {ws : List ByteArray} (hw : Wok ws) : Rd (zC ws) (fun i => ws.getD i.toNat ByteArray.empty ++ (wSp ++ ByteArray.empty)) (fun i => (0 ≤ i ∧ i < ws.length) ∧ i = i) :=
  rd_B (fun v => v) (rd_W hw) (okg := fun a v => v = a) (fun a _ => rd_WB wds_wSp.ok (rd_R a) (gd_R a)) (fun _ _ h => h) (gd_W _) (fun _ => gd_B (gd_W _) fun _ => gd_R _)
end Go.Proofs.YtkhicgafhbecfaaGreatDoor

namespace Go.Proofs.YtkhicgafhbecfaaGreatDoor
open Go.RowKit

structure Anc where
  k : Int
  m : Int
  d : Int
  o : Int
  w : Int
  c : Int
def Itm.anc (t : Itm) : Anc := ⟨t.k, t.m, t.d, t.o, t.w, t.c⟩
def mkI (id : ByteArray) (x y : Int) (a : Anc) : Itm := ⟨id, x, y, a.k, a.m, a.d, a.o, a.w, a.c⟩
def pFix : Prs Anc := yB (zN wSp) fun m => yB (zN wLf) fun d => yR ⟨1, m, d, 0, 0, 0⟩
def pEas : Prs Anc := yB (zN wLf) fun o => yR ⟨2, 0, 0, o, 0, 0⟩
def pNth : Prs Anc := yB (zC lWd) fun w => yB (zN wSp) fun c => yB (zN wSp) fun m => yB (zN wLf) fun d => yR ⟨3, m, d, 0, w, c⟩
def pAnx (i : Int) : Prs Anc := if i = 0 then pFix else if i = 1 then pEas else if i = 2 then pNth else yR ⟨0, 0, 0, 0, 0, 0⟩
def pAnc : Prs Anc := yB (zC lAn) pAnx
def pSea : Prs Itm := yB (yW [wSea]) fun _ => yB zI fun id => yB (zN wSp) fun x => yB (zN wSp) fun y => yB pAnc fun a => yR (mkI id x y a)
def pFea : Prs Itm := yB (yW [wFea]) fun _ => yB zI fun id => yB (zN wSp) fun x => yB (zC lPo) fun y => yB pAnc fun a => yR (mkI id x (1 + y) a)
def pMany (c : Int) (f : Prs Itm) : Nat → List Itm → Prs (List Itm)
  | 0, l => yR l
  | n + 1, l => fun S x => if fpV x.b S x.k = c then pMany c f n (l ++ [(f S x).1]) S (f S x).2 else (l, x)
def pBody (N : Nat) : Prs Cat := yB (yW [wCat]) fun _ => yB (yW [wFre]) fun _ => yB (zN wLf) fun free => yB (pMany 115 pSea N []) fun ss => yB (pMany 102 pFea N []) fun fs => yB (yW [wEnd]) fun _ => yR ⟨free, ss, fs⟩
def wFix : ByteArray := ⟨#[102, 105, 120, 101, 100]⟩
def wEas : ByteArray := ⟨#[101, 97, 115, 116, 101, 114]⟩
def wNth : ByteArray := ⟨#[110, 116, 104]⟩
def txA (a : Anc) : ByteArray := if a.k = 1 then wFix ++ (wSp ++ (itB a.m ++ (wSp ++ (itB a.d ++ wLf)))) else if a.k = 2 then wEas ++ (wSp ++ (itB a.o ++ wLf)) else wNth ++ (wSp ++ (nm a.w ++ (wSp ++ (itB a.c ++ (wSp ++ (itB a.m ++ (wSp ++ (itB a.d ++ wLf))))))))
def txP (y : Int) : ByteArray := if y = 1 then ⟨#[116, 114, 97, 110, 115, 102, 101, 114]⟩ else if y = 2 then ⟨#[99, 111, 109, 109, 101, 109, 111, 114, 97, 116, 101]⟩ else ⟨#[111, 109, 105, 116]⟩
def txS (t : Itm) : ByteArray := wSea ++ (t.id ++ (wSp ++ (itB t.x ++ (wSp ++ (itB t.y ++ (wSp ++ txA t.anc))))))
def txF (t : Itm) : ByteArray := wFea ++ (t.id ++ (wSp ++ (itB t.x ++ (wSp ++ (txP t.y ++ (wSp ++ txA t.anc))))))
def txs (f : Itm → ByteArray) : List Itm → ByteArray
  | [] => ByteArray.empty
  | t :: l => f t ++ txs f l
def txC (c : Cat) : ByteArray := wCat ++ (wFre ++ (itB c.free ++ (wLf ++ (txs txS c.ss ++ (txs txF c.fs ++ wEnd)))))
def ancK (a : Anc) : Bool := if a.k = 1 then decide (a.o = 0) && (decide (a.w = 0) && decide (a.c = 0)) else if a.k = 2 then decide (a.m = 0) && (decide (a.d = 0) && (decide (a.w = 0) && decide (a.c = 0))) else if a.k = 3 then decide (a.o = 0) && (decide (0 ≤ a.w) && decide (a.w ≤ 6)) else false
def ancB (a : Anc) : Bool := (inT a.m && (inT a.d && (inT a.o && inT a.c))) && ancK a
def okS (t : Itm) : Bool := idn t.id && (inT t.x && (inT t.y && ancB t.anc))
def okF (t : Itm) : Bool := idn t.id && (inT t.x && ((decide (1 ≤ t.y) && decide (t.y ≤ 3)) && ancB t.anc))
def okCt (c : Cat) : Bool := c.ss.all okS && (c.fs.all okF && inT c.free)
theorem gd_Fix : Gk pFix := gd_B (gd_zN _) fun _ => gd_B (gd_zN _) fun _ => gd_R _
theorem gd_Eas : Gk pEas := gd_B (gd_zN _) fun _ => gd_R _
theorem gd_Nth : Gk pNth := gd_B (gd_zC _) fun _ => gd_B (gd_zN _) fun _ => gd_B (gd_zN _) fun _ => gd_B (gd_zN _) fun _ => gd_R _
theorem gd_Anx (i : Int) : Gk (pAnx i) := by
  unfold pAnx
  split
  · exact gd_Fix
  · split
    · exact gd_Eas
    · split
      · exact gd_Nth
      · exact gd_R _
theorem gd_Anc : Gk pAnc := gd_B (gd_zC _) gd_Anx
theorem gd_Sea : Gk pSea := gd_B (gd_W _) fun _ => gd_B gd_zI fun _ => gd_B (gd_zN _) fun _ => gd_B (gd_zN _) fun _ => gd_B gd_Anc fun _ => gd_R _
theorem gd_Fea : Gk pFea := gd_B (gd_W _) fun _ => gd_B gd_zI fun _ => gd_B (gd_zN _) fun _ => gd_B (gd_zC _) fun _ => gd_B gd_Anc fun _ => gd_R _
theorem gd_Many {c : Int} {f : Prs Itm} (hc : c ≠ 0) (G : Gk f) : ∀ (n : Nat) (l : List Itm), Gk (pMany c f n l) := by
  intro n
  induction n with
  | zero => intro l; exact gd_R l
  | succ n ih =>
    intro l
    constructor
    · intro S x hk
      unfold pMany
      split
      · obtain ⟨a, b⟩ := G.le S x hk
        obtain ⟨d, e⟩ := (ih (l ++ [(f S x).1])).le S (f S x).2 b
        exact ⟨Nat.le_trans a d, e⟩
      · exact ⟨Nat.le_refl _, hk⟩
    · intro S x hb
      unfold pMany
      rw [if_neg]
      rw [hb]
      exact fun e => hc e.symm
theorem gd_Body (N : Nat) : Gk (pBody N) := gd_B (gd_W _) fun _ => gd_B (gd_W _) fun _ => gd_B (gd_zN _) fun _ => gd_B (gd_Many (by decide) gd_Sea N []) fun _ => gd_B (gd_Many (by decide) gd_Fea N []) fun _ => gd_B (gd_W _) fun _ => gd_R _
theorem adv_W {α : Type} {w : ByteArray} (hw : Wok [w]) {f : Prs α} (G : Gk f) {S : ByteArray} {x : Sc} (hk : x.k ≤ S.size) (hb : ((yB (yW [w]) fun _ => f) S x).2.b = false) : x.k + w.size ≤ ((yB (yW [w]) fun _ => f) S x).2.k := by
  have h1 : (yW [w] S x).2.b = false := G.ok hb
  obtain ⟨_, _, a3⟩ := (rd_W1 hw).so S x hk h1
  have hk2 := ((gd_W [w]).le S x hk).2
  have := (G.le S (yW [w] S x).2 hk2).1
  show x.k + w.size ≤ (f S (yW [w] S x).2).2.k
  omega
def Adv (f : Prs Itm) : Prop := ∀ S x, x.k ≤ S.size → (f S x).2.b = false → x.k < (f S x).2.k
theorem adv_Sea : Adv pSea := fun S x hk hb => by
  have := adv_W (S := S) (x := x) wds_wSea.ok (gd_B gd_zI fun id => gd_B (gd_zN wSp) fun a => gd_B (gd_zN wSp) fun b => gd_B gd_Anc fun c => gd_R (mkI id a b c)) hk hb
  have s : wSea.size = 7 := rfl
  rw [s] at this
  exact Nat.lt_of_lt_of_le (by omega) this
theorem adv_Fea : Adv pFea := fun S x hk hb => by
  have := adv_W (S := S) (x := x) wds_wFea.ok (gd_B gd_zI fun id => gd_B (gd_zN wSp) fun a => gd_B (gd_zC lPo) fun b => gd_B gd_Anc fun c => gd_R (mkI id a (1 + b) c)) hk hb
  have s : wFea.size = 6 := rfl
  rw [s] at this
  exact Nat.lt_of_lt_of_le (by omega) this
section
variable {S T : ByteArray} {k : Nat}
theorem sm_zN (A : Agr S T k) {e : ByteArray} (hw : Wds [e]) (h3 : No33 [e]) : SmB S T k (zN e) :=
  smB_Bw (smW_N A) (fun _ => smB_B (smB_W A hw.ok h3) (fun _ => smB_R _) (fun _ => gd_R _) A.hT (gd_W _)) (fun _ => kpB_B (kpB_W A hw.ok h3) fun _ => gd_R _) (fun _ => gd_B (gd_W _) fun _ => gd_R _) A.hT gd_N
theorem sm_zI (A : Agr S T k) : SmB S T k zI :=
  smB_Bw (smW_I A) (fun _ => smB_B (smB_W A wds_wSp.ok n33_wSp) (fun _ => smB_R _) (fun _ => gd_R _) A.hT (gd_W _)) (fun _ => kpB_B (kpB_W A wds_wSp.ok n33_wSp) fun _ => gd_R _) (fun _ => gd_B (gd_W _) fun _ => gd_R _) A.hT gd_I
theorem sm_zC (A : Agr S T k) {ws : List ByteArray} (hw : Wds ws) (h3 : No33 ws) : SmB S T k (zC ws) :=
  smB_B (smB_W A hw.ok h3) (fun _ => smB_B (smB_W A wds_wSp.ok n33_wSp) (fun _ => smB_R _) (fun _ => gd_R _) A.hT (gd_W _)) (fun _ => gd_B (gd_W _) fun _ => gd_R _) A.hT (gd_W _)
theorem sm_sp (A : Agr S T k) : SmB S T k (zN wSp) := sm_zN A wds_wSp n33_wSp
theorem sm_lf (A : Agr S T k) : SmB S T k (zN wLf) := sm_zN A wds_wLf n33_wLf
theorem sm_Anc (A : Agr S T k) : SmB S T k pAnc := by
  refine smB_B (sm_zC A wds_lAn n33_lAn) (fun i => ?_) gd_Anx A.hT (gd_zC _)
  unfold pAnx
  split
  · exact smB_B (sm_sp A) (fun _ => smB_B (sm_lf A) (fun _ => smB_R _) (fun _ => gd_R _) A.hT (gd_zN _)) (fun _ => gd_B (gd_zN _) fun _ => gd_R _) A.hT (gd_zN _)
  · split
    · exact smB_B (sm_lf A) (fun _ => smB_R _) (fun _ => gd_R _) A.hT (gd_zN _)
    · split
      · exact smB_B (sm_zC A wds_lWd n33_lWd) (fun _ => smB_B (sm_sp A) (fun _ => smB_B (sm_sp A) (fun _ => smB_B (sm_lf A) (fun _ => smB_R _) (fun _ => gd_R _) A.hT (gd_zN _)) (fun _ => gd_B (gd_zN _) fun _ => gd_R _) A.hT (gd_zN _)) (fun _ => gd_B (gd_zN _) fun _ => gd_B (gd_zN _) fun _ => gd_R _) A.hT (gd_zN _)) (fun _ => gd_B (gd_zN _) fun _ => gd_B (gd_zN _) fun _ => gd_B (gd_zN _) fun _ => gd_R _) A.hT (gd_zC _)
      · exact smB_R _
theorem sm_Sea (A : Agr S T k) : SmB S T k pSea :=
  smB_B (smB_W A wds_wSea.ok n33_wSea) (fun _ => smB_B (sm_zI A) (fun _ => smB_B (sm_sp A) (fun _ => smB_B (sm_sp A) (fun _ => smB_B (sm_Anc A) (fun _ => smB_R _) (fun _ => gd_R _) A.hT gd_Anc) (fun _ => gd_B gd_Anc fun _ => gd_R _) A.hT (gd_zN _)) (fun _ => gd_B (gd_zN _) fun _ => gd_B gd_Anc fun _ => gd_R _) A.hT (gd_zN _)) (fun _ => gd_B (gd_zN _) fun _ => gd_B (gd_zN _) fun _ => gd_B gd_Anc fun _ => gd_R _) A.hT gd_zI) (fun _ => gd_B gd_zI fun _ => gd_B (gd_zN _) fun _ => gd_B (gd_zN _) fun _ => gd_B gd_Anc fun _ => gd_R _) A.hT (gd_W _)
theorem sm_Fea (A : Agr S T k) : SmB S T k pFea :=
  smB_B (smB_W A wds_wFea.ok n33_wFea) (fun _ => smB_B (sm_zI A) (fun _ => smB_B (sm_sp A) (fun _ => smB_B (sm_zC A wds_lPo n33_lPo) (fun _ => smB_B (sm_Anc A) (fun _ => smB_R _) (fun _ => gd_R _) A.hT gd_Anc) (fun _ => gd_B gd_Anc fun _ => gd_R _) A.hT (gd_zC _)) (fun _ => gd_B (gd_zC _) fun _ => gd_B gd_Anc fun _ => gd_R _) A.hT (gd_zN _)) (fun _ => gd_B (gd_zN _) fun _ => gd_B (gd_zC _) fun _ => gd_B gd_Anc fun _ => gd_R _) A.hT gd_zI) (fun _ => gd_B gd_zI fun _ => gd_B (gd_zN _) fun _ => gd_B (gd_zC _) fun _ => gd_B gd_Anc fun _ => gd_R _) A.hT (gd_W _)
theorem kp_Many (A : Agr S T k) {c : Int} (hc : c ≠ 0) (h33 : c ≠ 33) {f : Prs Itm} : ∀ (n : Nat) (l : List Itm), KpW S k (pMany c f n l) := by
  intro n l x hx
  cases n with
  | zero => exact hx
  | succ n =>
    unfold pMany
    rw [if_neg (by rw [hx]; exact pk_dead A hc h33 x.b)]
    exact hx
theorem sm_Many (A : Agr S T k) {c : Int} (hc : c ≠ 0) (h33 : c ≠ 33) {f : Prs Itm} (hf : SmB S T k f) (G : Gk f) (ha : Adv f) : ∀ (n : Nat) (l : List Itm), SmW S T k (pMany c f n l) := by
  intro n
  induction n with
  | zero => intro l; exact (smB_R l).w
  | succ n ih =>
    intro l x hb hk hT
    have sT := A.hT
    by_cases hxk : x.k = k
    · have eS : pMany c f (n + 1) l S x = (l, x) := by
        unfold pMany
        rw [if_neg (by rw [hxk]; exact pk_dead A hc h33 x.b)]
      by_cases g : fpV x.b T x.k = c
      · have eT : pMany c f (n + 1) l T x = pMany c f n (l ++ [(f T x).1]) T (f T x).2 := by
          show (if fpV x.b T x.k = c then _ else _) = _
          rw [if_pos g]
        rw [eT] at hT ⊢
        have h1 := (gd_Many hc G n (l ++ [(f T x).1])).ok hT
        have h2 := ha T x (by omega) h1
        have h3 := (G.le T x (by omega)).2
        have h4 := ((gd_Many hc G n (l ++ [(f T x).1])).le T (f T x).2 h3).1
        right
        refine ⟨by omega, ?_⟩
        rw [eS]; exact hxk
      · have eT : pMany c f (n + 1) l T x = (l, x) := by
          show (if fpV x.b T x.k = c then _ else _) = _
          rw [if_neg g]
        left
        rw [eS, eT]
        exact ⟨hk, rfl⟩
    · have eg : fpV x.b S x.k = fpV x.b T x.k := by
        rw [hb]; exact pk_same A (by omega)
      by_cases g : fpV x.b T x.k = c
      · have eT : pMany c f (n + 1) l T x = pMany c f n (l ++ [(f T x).1]) T (f T x).2 := by
          show (if fpV x.b T x.k = c then _ else _) = _
          rw [if_pos g]
        have eS : pMany c f (n + 1) l S x = pMany c f n (l ++ [(f S x).1]) S (f S x).2 := by
          show (if fpV x.b S x.k = c then _ else _) = _
          rw [if_pos (eg.trans g)]
        rw [eT] at hT ⊢
        rw [eS]
        have h1 := (gd_Many hc G n (l ++ [(f T x).1])).ok hT
        rcases hf x hb hk h1 with ⟨a, e⟩ | ⟨a, e⟩
        · rw [e]
          exact ih (l ++ [(f T x).1]) (f T x).2 h1 a hT
        · right
          have h3 := (G.le T x (by omega)).2
          have h4 := ((gd_Many hc G n (l ++ [(f T x).1])).le T (f T x).2 h3).1
          refine ⟨by omega, ?_⟩
          rw [e, (gd_Many hc G n (l ++ [(f S x).1])).bad S ⟨k, true⟩ rfl]
      · left
        have eT : pMany c f (n + 1) l T x = (l, x) := by
          show (if fpV x.b T x.k = c then _ else _) = _
          rw [if_neg g]
        have eS : pMany c f (n + 1) l S x = (l, x) := by
          show (if fpV x.b S x.k = c then _ else _) = _
          rw [if_neg (by rw [eg]; exact g)]
        rw [eS, eT]
        exact ⟨hk, rfl⟩
/-- A text that agrees with one that is read to its end, and is dead at k: it has failed at k, or has been read alike. -/
theorem body_sm (A : Agr S T k) (N : Nat) : SmB S T k (pBody N) := by
  have kE : ∀ (v : List Itm → Cat), ∀ fs, KpB S k (yB (yW [wEnd]) fun _ => yR (v fs)) := fun v fs => kpB_B (kpB_W A wds_wEnd.ok n33_wEnd) fun _ => gd_R _
  have sE : ∀ (v : List Itm → Cat), ∀ fs, SmB S T k (yB (yW [wEnd]) fun _ => yR (v fs)) := fun v fs => smB_B (smB_W A wds_wEnd.ok n33_wEnd) (fun _ => smB_R _) (fun _ => gd_R _) A.hT (gd_W _)
  have gE : ∀ (v : List Itm → Cat), ∀ fs, Gk (yB (yW [wEnd]) fun _ => yR (v fs)) := fun v fs => gd_B (gd_W _) fun _ => gd_R _
  have gS := gd_Many (c := 115) (by decide) gd_Sea N []
  have gF := gd_Many (c := 102) (by decide) gd_Fea N []
  have sS := sm_Many A (c := 115) (by decide) (by decide) (sm_Sea A) gd_Sea adv_Sea N []
  have sF := sm_Many A (c := 102) (by decide) (by decide) (sm_Fea A) gd_Fea adv_Fea N []
  have kF := kp_Many A (c := 102) (by decide) (by decide) (f := pFea) N []
  have sFE : ∀ (v : List Itm → Cat), SmB S T k (yB (pMany 102 pFea N []) fun fs => yB (yW [wEnd]) fun _ => yR (v fs)) := fun v => smB_Bw sF (sE v) (kE v) (gE v) A.hT gF
  have kFE : ∀ (v : List Itm → Cat), KpB S k (yB (pMany 102 pFea N []) fun fs => yB (yW [wEnd]) fun _ => yR (v fs)) := fun v => kpB_Bw kF (kE v)
  have gFE : ∀ (v : List Itm → Cat), Gk (yB (pMany 102 pFea N []) fun fs => yB (yW [wEnd]) fun _ => yR (v fs)) := fun v => gd_B gF (gE v)
  have sSF : ∀ free : Int, SmB S T k (yB (pMany 115 pSea N []) fun ss => yB (pMany 102 pFea N []) fun fs => yB (yW [wEnd]) fun _ => yR (⟨free, ss, fs⟩ : Cat)) := fun free => smB_Bw sS (fun ss => sFE fun fs => ⟨free, ss, fs⟩) (fun ss => kFE fun fs => ⟨free, ss, fs⟩) (fun ss => gFE fun fs => ⟨free, ss, fs⟩) A.hT gS
  have gSF : ∀ free : Int, Gk (yB (pMany 115 pSea N []) fun ss => yB (pMany 102 pFea N []) fun fs => yB (yW [wEnd]) fun _ => yR (⟨free, ss, fs⟩ : Cat)) := fun free => gd_B gS fun ss => gFE fun fs => ⟨free, ss, fs⟩
  exact smB_B (smB_W A wds_wCat.ok n33_wCat) (fun _ => smB_B (smB_W A wds_wFre.ok n33_wFre) (fun _ => smB_B (sm_lf A) sSF gSF A.hT (gd_zN _)) (fun _ => gd_B (gd_zN _) gSF) A.hT (gd_W _)) (fun _ => gd_B (gd_W _) fun _ => gd_B (gd_zN _) gSF) A.hT (gd_W _)
end
end Go.Proofs.YtkhicgafhbecfaaGreatDoor
