/- Scanning what a text holds (prepared for stage 26), plain: a word, a decimal text, an identifier that lies at an offset of a text is accepted there; what is accepted lies there. -/
import Derived.Test.YthmfhgehahpgbaaGreatDoorM5
namespace Go.Proofs.YthmfhgehahpgbaaGreatDoor
open Go.RowKit

/-- A string lies in a text from an offset on. -/
def LiesAt (S : ByteArray) (k : Nat) (w : ByteArray) : Prop := ∀ j, j < w.size → k + j < S.size ∧ bt S (k + j) = bt w j
theorem LiesAt.len {S : ByteArray} {k : Nat} {w : ByteArray} (h : LiesAt S k w) (hk : k ≤ S.size) : k + w.size ≤ S.size := by
  rcases Nat.eq_zero_or_pos w.size with e | e
  · omega
  · have := (h (w.size - 1) (by omega)).1; omega
theorem lies_app {S : ByteArray} {k : Nat} {a b : ByteArray} (h : LiesAt S k (a ++ b)) : LiesAt S k a ∧ LiesAt S (k + a.size) b := by
  have hs : (a ++ b).size = a.size + b.size := ByteArray.size_append
  constructor
  · intro j hj
    have := h j (by omega)
    rw [bt_app, if_pos hj] at this
    exact this
  · intro j hj
    have := h (a.size + j) (by omega)
    rw [bt_app, if_neg (by omega), show a.size + j - a.size = j by omega, ← Nat.add_assoc] at this
    exact this
/-- A word that lies there is accepted. -/
theorem wd_at {S : ByteArray} {k i : Nat} {ws : List ByteArray} (hw : Wok ws) (hi : i < ws.length) (h : LiesAt S k (ws.getD i ByteArray.empty)) : wdF S k ws = some i := by
  have e : cm S k (ws.getD i ByteArray.empty) = (ws.getD i ByteArray.empty).size := by
    have h1 := cm_ge.2 ⟨Nat.le_refl _, h⟩
    have h2 := (cm_spec S k (ws.getD i ByteArray.empty)).1
    omega
  have hit : hitB S k (ws.getD i ByteArray.empty) = true := decide_eq_true e
  refine wdF_is hi hit fun j hj => ?_
  cases q : hitB S k (ws.getD j ByteArray.empty)
  · rfl
  · have ej : cm S k (ws.getD j ByteArray.empty) = (ws.getD j ByteArray.empty).size := of_decide_eq_true q
    rcases Nat.le_total (ws.getD i ByteArray.empty).size (ws.getD j ByteArray.empty).size with g | g
    · have := wok_one hw hi (show j < ws.length by omega) hit (by omega); omega
    · have := wok_one hw (show j < ws.length by omega) hi q (by omega); omega
/-- The word that is accepted lies there. -/
theorem at_wd {S : ByteArray} {k i : Nat} {ws : List ByteArray} (h : wdF S k ws = some i) : i < ws.length ∧ LiesAt S k (ws.getD i ByteArray.empty) := by
  obtain ⟨h1, h2, _⟩ := wdF_some h
  have e : cm S k (ws.getD i ByteArray.empty) = (ws.getD i ByteArray.empty).size := of_decide_eq_true h2
  exact ⟨h1, (cm_ge.1 (Nat.le_of_eq e.symm)).2⟩
/-- A number's digits that lie there, with no digit behind them. -/
theorem nu_at {S : ByteArray} {k n : Nat} {D : ByteArray} (hd : DecOk n D) (h : LiesAt S k D) (hn : dg S (k + D.size) = false) : nuB S k = false ∧ nuK S k = k + D.size ∧ nuV S k = (n : Int) := by
  have l1 := hd.l1
  have b0 := h 0 (by omega)
  rw [Nat.add_zero] at b0
  have d0 := dg_iff.1 (hd.dgt 0 (by omega))
  rw [Nat.add_zero] at d0
  have dd : ∀ j, j < D.size → dg S (k + j) = true := fun j hj => by
    have q := dg_iff.1 (hd.dgt j hj)
    rw [Nat.zero_add] at q
    exact dg_iff.2 ⟨(h j hj).1, by rw [(h j hj).2]; exact q.2.1, by rw [(h j hj).2]; exact q.2.2⟩
  have hv : vl S k D.size = (n : Int) := by
    rw [← hd.val]
    have : ∀ m, m ≤ D.size → vl S k m = vl D 0 m := by
      intro m
      induction m with
      | zero => intro _; rfl
      | succ m ih => intro hm; rw [vl_succ, vl_succ, ih (by omega), (h m (by omega)).2, Nat.zero_add]
    exact this _ (Nat.le_refl _)
  by_cases z : bt D 0 = 48
  · have s1 : D.size = 1 := by
      rcases hd.ld with e | e
      · exact e
      · omega
    have hz : nuZ S k = true := by unfold nuZ; rw [b0.2, z, dtrue b0.1]; rfl
    rw [s1] at hv
    have v1 : vl S k 1 = 10 * 0 + (bt S (k + 0) - 48) := rfl
    rw [v1, Nat.add_zero, b0.2, z] at hv
    unfold nuB nuK nuV
    rw [hz, s1]
    exact ⟨rfl, rfl, by simpa using hv⟩
  · have hz : nuZ S k = false := by unfold nuZ; rw [b0.2, dfalse z, Bool.and_false]
    have hneg : nuN S k = false := by unfold nuN; rw [b0.2, dfalse (show ¬ bt D 0 = 45 by omega), Bool.and_false]
    have eI : nuI S k = k := by unfold nuI; rw [hneg]; rfl
    have hD : nuD S k = true := by
      unfold nuD
      rw [eI, dg_iff.2 ⟨b0.1, by rw [b0.2]; omega, by rw [b0.2]; omega⟩, b0.2, dfalse z]
      rfl
    have eg : dgs S k 10 = D.size := dgs_eq hd.l2 dd (.inr hn)
    unfold nuB nuK nuV
    rw [hz, hD, hneg, eI, eg]
    exact ⟨rfl, rfl, hv⟩
/-- An identifier that lies there, with a byte behind it that is none of one's. -/
theorem id_at {S : ByteArray} {k : Nat} {t : ByteArray} (hk : k ≤ S.size) (h : idn t = true) (hl : LiesAt S k t) (hn : k + t.size < S.size → ¬ (97 ≤ bt S (k + t.size) ∧ bt S (k + t.size) ≤ 122) ∧ ¬ (48 ≤ bt S (k + t.size) ∧ bt S (k + t.size) ≤ 57) ∧ bt S (k + t.size) ≠ 45) : idL S k = t.size ∧ idB S k = false := by
  obtain ⟨h1, h2, h3⟩ := idn_pc.1 h
  have _ := hl.len hk
  have bf : ∀ j, j ≤ t.size → bfo S k j = bfr t j := fun j hj => by
    unfold bfo bfr
    by_cases q : j = 0
    · rw [if_pos q, if_pos q]
    · rw [if_neg q, if_neg q, show k + j - 1 = k + (j - 1) by omega, (hl (j - 1) (by omega)).2]
  have hp : ∀ j, j < t.size → idP S k j := fun j hj => by
    refine ⟨(hl j hj).1, by omega, ?_⟩
    rw [(hl j hj).2, bf j (by omega)]
    rcases h2 j hj with g | g | ⟨g, g2⟩
    · exact .inl g
    · exact .inr (.inl g)
    · refine .inr (.inr ⟨g, g2, fun e => ?_⟩)
      have e2 : t.size = j + 1 := by omega
      rw [e2, bfr_succ] at h3
      exact h3 g
  have hq : ¬ idP S k t.size := fun c => by
    obtain ⟨c1, _, c3⟩ := c
    obtain ⟨q1, q2, q3⟩ := hn c1
    rcases c3 with c | ⟨c, d, _⟩ | ⟨c, _⟩
    · exact q1 c
    · exact q2 ⟨c, d⟩
    · exact q3 c
  have e := idL_eq hp hq
  refine ⟨e, ?_⟩
  unfold idB
  rw [e, bf _ (Nat.le_refl _)]
  exact decide_eq_false h3
/-! what is accepted -/
theorem vl_low {S : ByteArray} {i : Nat} (h : 49 ≤ bt S i) : ∀ {m : Nat}, (∀ j, j < m + 1 → dg S (i + j) = true) → pw m ≤ vl S i (m + 1) := by
  intro m
  induction m with
  | zero =>
    intro _
    show (1 : Int) ≤ 10 * 0 + (bt S (i + 0) - 48)
    rw [Nat.add_zero]; omega
  | succ m ih =>
    intro hd
    have h1 := ih (fun j hj => hd j (by omega))
    have h2 := dg_iff.1 (hd (m + 1) (by omega))
    rw [vl_succ]
    have : pw (m + 1) = 10 * pw m := rfl
    omega
/-- Digits that lie in a text, the first of them not 0 unless it is alone, are a decimal text. -/
theorem dec_ext {S : ByteArray} {i m : Nat} (h1 : 1 ≤ m) (h2 : m ≤ 10) (hs : i + m ≤ S.size) (hd : ∀ j, j < m → dg S (i + j) = true) (hl : m = 1 ∨ 49 ≤ bt S i) : DecOk (vl S i m).toNat (S.extract i (i + m)) ∧ ((vl S i m).toNat : Int) = vl S i m := by
  have es : (S.extract i (i + m)).size = m := by rw [ext_size (by omega) hs]; omega
  have hv := vl_bd hd
  have hn : ((vl S i m).toNat : Int) = vl S i m := by omega
  have e0 : bt (S.extract i (i + m)) 0 = bt S i := by rw [bt_ext (by omega), Nat.add_zero]
  refine ⟨⟨by omega, by omega, fun j hj => ?_, ?_, ?_, ?_⟩, hn⟩
  · rw [es] at hj
    rw [Nat.zero_add, dg_ext (by omega) hs]; exact hd j hj
  · rw [es, vl_ext (by omega), Nat.add_zero, hn]
  · rw [es, e0]; exact hl
  · rw [es, hn]
    rcases hl with e | e
    · exact .inl e
    · right
      have := vl_low e (m := m - 1) (fun j hj => hd j (by omega))
      rwa [show m - 1 + 1 = m by omega] at this
/-- The number that is accepted. -/
theorem at_nu {S : ByteArray} {k : Nat} (hk : k ≤ S.size) (h : nuB S k = false) :
    (∃ n : Nat, nuV S k = (n : Int) ∧ DecOk n (S.extract k (nuK S k))) ∨ (∃ n : Nat, 1 ≤ n ∧ nuV S k = -(n : Int) ∧ k < S.size ∧ bt S k = 45 ∧ DecOk n (S.extract (k + 1) (nuK S k))) := by
  have hle := nuK_le S k hk
  cases hz : nuZ S k
  · cases hd : nuD S k
    · unfold nuB at h; rw [hz, hd] at h; cases h
    · obtain ⟨y1, y2, y3⟩ := nuD_yes hd
      have y4 : dg S (nuI S k) = true := dg_iff.2 ⟨y1, by omega, y3⟩
      have m1 : 1 ≤ dgs S (nuI S k) 10 := by
        show 1 ≤ if dg S (nuI S k) then dgs S (nuI S k + 1) 9 + 1 else 0
        rw [y4, if_pos rfl]; omega
      have m2 := dgs_le S (nuI S k) 10
      have eK : nuK S k = nuI S k + dgs S (nuI S k) 10 := by unfold nuK; rw [hz, hd]; rfl
      have hs := dgs_size S (nuI S k) 10 (nuI_le S k hk)
      obtain ⟨q1, q2⟩ := dec_ext m1 m2 hs (dgs_all S 10 (nuI S k)) (.inr y2)
      rw [← eK] at q1
      cases hn : nuN S k
      · obtain ⟨-, eI⟩ := nuN_no hn
        left
        refine ⟨_, ?_, by rw [eI] at q1; exact q1⟩
        unfold nuV; rw [hz, hd, hn]
        show vl S (nuI S k) _ = _
        rw [eI] at q2 ⊢; exact q2.symm
      · obtain ⟨n1, n2, eI⟩ := nuN_yes hn
        right
        have hp := vl_low y2 (m := dgs S (nuI S k) 10 - 1) (fun j hj => dgs_all S 10 (nuI S k) j (by omega))
        rw [show dgs S (nuI S k) 10 - 1 + 1 = dgs S (nuI S k) 10 by omega] at hp
        have h3 := pw_mono (show 0 ≤ dgs S (nuI S k) 10 - 1 by omega)
        have h4 : pw 0 = 1 := rfl
        refine ⟨(vl S (nuI S k) (dgs S (nuI S k) 10)).toNat, by omega, ?_, n1, n2, by rw [eI] at q1 ⊢; exact q1⟩
        unfold nuV; rw [hz, hd, hn]
        show - vl S (nuI S k) _ = _
        rw [eI] at q2 ⊢; rw [q2]
  · obtain ⟨z1, z2⟩ := nuZ_yes hz
    have eK : nuK S k = k + 1 := by unfold nuK; rw [hz]; rfl
    have eV : nuV S k = 0 := by unfold nuV; rw [hz]; rfl
    have d0 : dg S k = true := dg_iff.2 ⟨z1, by omega, by omega⟩
    obtain ⟨q1, q2⟩ := dec_ext (S := S) (i := k) (m := 1) (Nat.le_refl _) (by omega) (by omega) (fun j hj => by rw [show k + j = k by omega]; exact d0) (.inl rfl)
    left
    have v1 : vl S k 1 = 10 * 0 + (bt S (k + 0) - 48) := rfl
    rw [Nat.add_zero, z2] at v1
    refine ⟨_, ?_, by rw [eK]; exact q1⟩
    rw [eV, q2, v1]; rfl
theorem bt_inj {D E : ByteArray} (hs : D.size = E.size) (h : ∀ j, j < D.size → bt D j = bt E j) : D = E := by
  have : D.data.toList = E.data.toList := by
    refine List.ext_getElem (by simpa using hs) fun j h1 h2 => ?_
    have h1' : j < D.size := by simpa using h1
    have := h j h1'
    unfold bt at this
    rw [List.getD_eq_getElem?_getD, List.getElem?_eq_getElem h1, List.getD_eq_getElem?_getD, List.getElem?_eq_getElem h2] at this
    have this : ((D.data[j].toNat : Nat) : Int) = (E.data[j].toNat : Nat) := by simpa using this
    exact UInt8.toNat_inj.1 (Int.ofNat.inj this)
  exact congrArg ByteArray.mk (Array.toList_inj.1 this)
theorem vl_inj {D E : ByteArray} : ∀ {m : Nat}, (∀ j, j < m → dg D (0 + j) = true) → (∀ j, j < m → dg E (0 + j) = true) → vl D 0 m = vl E 0 m → ∀ j, j < m → bt D j = bt E j := by
  intro m
  induction m with
  | zero => intro _ _ _ j hj; omega
  | succ m ih =>
    intro h1 h2 h j hj
    have a := dg_iff.1 (h1 m (by omega))
    have b := dg_iff.1 (h2 m (by omega))
    rw [vl_succ, vl_succ] at h
    rw [Nat.zero_add] at a b h
    by_cases q : j < m
    · exact ih (fun j hj => h1 j (by omega)) (fun j hj => h2 j (by omega)) (by omega) j q
    · rw [show j = m by omega]; omega
/-- A number has one decimal text. -/
theorem dec_uniq {n : Nat} {D E : ByteArray} (hD : DecOk n D) (hE : DecOk n E) : D = E := by
  have key : ∀ {A B : ByteArray}, DecOk n A → DecOk n B → A.size ≤ B.size := fun {A B} a b => by
    rcases a.low with e | e
    · have := b.l1; omega
    · refine Classical.byContradiction fun c => ?_
      have h1 := (vl_bd b.dgt).2
      rw [b.val] at h1
      have h2 := pw_mono (show B.size ≤ A.size - 1 by omega)
      omega
  have hs : D.size = E.size := Nat.le_antisymm (key hD hE) (key hE hD)
  refine bt_inj hs (vl_inj hD.dgt (by rw [hs]; exact hE.dgt) ?_)
  rw [hD.val, hs, hE.val]
end Go.Proofs.YthmfhgehahpgbaaGreatDoor
