/- What is accepted as a calendar's text, and what a calendar's text is read to: plain. -/
import Derived.Test.YtkhicgafhbecfaaGreatDoorEg
namespace Go.Proofs.YtkhicgafhbecfaaGreatDoor
open Go.RowKit

/-- A reader: what it accepts lies there as it is written; what is written is read, where what follows lets it end. -/
structure Rf (fol : Int → Prop) {α : Type} (f : Prs α) (pr : α → ByteArray) (ok : α → Prop) : Prop where
  so : ∀ S x, x.k ≤ S.size → (f S x).2.b = false → ok (f S x).1 ∧ LiesAt S x.k (pr (f S x).1) ∧ (f S x).2.k = x.k + (pr (f S x).1).size
  co : ∀ S k v, k ≤ S.size → ok v → LiesAt S k (pr v) → fol (nxB S (k + (pr v).size)) → f S ⟨k, false⟩ = (v, ⟨k + (pr v).size, false⟩)
abbrev anyB : Int → Prop := fun _ => True
abbrev noDg : Int → Prop := fun c => ¬ (48 ≤ c ∧ c ≤ 57)
abbrev noId : Int → Prop := fun c => ¬ (97 ≤ c ∧ c ≤ 122) ∧ ¬ (48 ≤ c ∧ c ≤ 57) ∧ c ≠ 45
theorem Rd.f {α : Type} {f : Prs α} {pr : α → ByteArray} {ok : α → Prop} (h : Rd f pr ok) : Rf anyB f pr ok := ⟨h.so, fun S k v a b c _ => h.co S k v a b c⟩
theorem nxb_lies {S : ByteArray} {k : Nat} {T : ByteArray} (h : LiesAt S k T) (hT : 1 ≤ T.size) : nxB S k = bt T 0 := by
  obtain ⟨h1, h2⟩ := h 0 hT
  unfold nxB
  rw [Nat.add_zero] at h1 h2
  rw [if_pos h1, h2]
theorem rf_B {α β : Type} {fol fol2 : Int → Prop} {f : Prs α} {g : α → Prs β} {pf : α → ByteArray} {pg : β → ByteArray} {okf : α → Prop} {okg : α → β → Prop} (p : β → α) (hf : Rf fol f pf okf) (hg : ∀ a, okf a → Rf fol2 (g a) pg (okg a)) (hp : ∀ a v, okg a v → p v = a) (hn : ∀ a v, okf a → okg a v → 1 ≤ (pg v).size ∧ fol (bt (pg v) 0)) (Gf : Gk f) (Gg : ∀ a, Gk (g a)) :
    Rf fol2 (yB f g) (fun v => pf (p v) ++ pg v) (fun v => okf (p v) ∧ okg (p v) v) := by
  constructor
  · intro S x hx hb
    have h1 : (f S x).2.b = false := (Gg _).ok hb
    obtain ⟨a1, a2, a3⟩ := hf.so S x hx h1
    have hk := (Gf.le S x hx).2
    obtain ⟨b1, b2, b3⟩ := (hg _ a1).so S (f S x).2 hk hb
    have e := hp _ _ b1
    show (okf (p (g (f S x).1 S (f S x).2).1) ∧ _) ∧ LiesAt S x.k (pf (p (g (f S x).1 S (f S x).2).1) ++ pg (g (f S x).1 S (f S x).2).1) ∧ (g (f S x).1 S (f S x).2).2.k = _
    rw [e]
    refine ⟨⟨a1, ?_⟩, ?_, ?_⟩
    · show okg (p (g (f S x).1 S (f S x).2).1) _
      rw [e]; exact b1
    · rw [a3] at b2; exact lies_join a2 b2
    · show _ = x.k + (pf (p (g (f S x).1 S (f S x).2).1) ++ pg (g (f S x).1 S (f S x).2).1).size
      rw [e, b3, a3, ByteArray.size_append, Nat.add_assoc]
  · rintro S k v hk ⟨o1, o2⟩ hl hfol
    obtain ⟨l1, l2⟩ := lies_app hl
    have n1 := hn _ _ o1 o2
    have e1 := hf.co S k (p v) hk o1 l1 (by rw [nxb_lies l2 n1.1]; exact n1.2)
    have e2 := (hg _ o1).co S (k + (pf (p v)).size) v (l1.len hk) o2 l2 (by rw [Nat.add_assoc, ← ByteArray.size_append]; exact hfol)
    show g (f S ⟨k, false⟩).1 S (f S ⟨k, false⟩).2 = _
    rw [e1]
    show g (p v) S ⟨k + (pf (p v)).size, false⟩ = _
    rw [e2, ByteArray.size_append, Nat.add_assoc]
theorem Rf.to {α : Type} {fol : Int → Prop} {f : Prs α} {pr pr' : α → ByteArray} {ok ok' : α → Prop} (h : Rf fol f pr ok) (h1 : ∀ v, ok' v ↔ ok v) (h2 : ∀ v, ok v → pr' v = pr v) : Rf fol f pr' ok' := by
  constructor
  · intro S x hx hb
    obtain ⟨a, b, c⟩ := h.so S x hx hb
    rw [h2 _ a]
    exact ⟨(h1 _).2 a, b, c⟩
  · intro S k v hk ho hl hf
    have o := (h1 _).1 ho
    rw [h2 _ o] at hl hf ⊢
    exact h.co S k v hk o hl hf
theorem rf_WB {α : Type} {fol : Int → Prop} {w : ByteArray} (hw : Wok [w]) {f : Prs α} {pr : α → ByteArray} {ok : α → Prop} (h : Rf fol f pr ok) (G : Gk f) : Rf fol (yB (yW [w]) fun _ => f) (fun v => w ++ pr v) ok := by
  constructor
  · intro S x hx hb
    have h1 : (yW [w] S x).2.b = false := G.ok hb
    obtain ⟨_, a2, a3⟩ := (rd_W1 hw).so S x hx h1
    have hk := ((gd_W [w]).le S x hx).2
    obtain ⟨b1, b2, b3⟩ := h.so S (yW [w] S x).2 hk hb
    refine ⟨b1, ?_, ?_⟩
    · rw [a3] at b2; exact lies_join a2 b2
    · show (f S (yW [w] S x).2).2.k = x.k + (w ++ pr (f S (yW [w] S x).2).1).size
      rw [b3, a3, ByteArray.size_append, Nat.add_assoc]
  · intro S k v hk ho hl hf
    obtain ⟨l1, l2⟩ := lies_app hl
    have e1 := (rd_W1 hw).co S k 0 hk rfl l1
    show f S (yW [w] S ⟨k, false⟩).2 = _
    rw [e1]
    show f S ⟨k + w.size, false⟩ = _
    rw [h.co S _ v (l1.len hk) ho l2 (by rw [Nat.add_assoc, ← ByteArray.size_append]; exact hf), ByteArray.size_append, Nat.add_assoc]
theorem rf_N : Rf noDg yNu itB (fun n => inT n = true) := by
  constructor
  · rintro S ⟨k, b⟩ hx hb
    obtain rfl : b = false := gd_N.ok hb
    replace hx : k ≤ S.size := hx
    have h1' : nuB S k = false := hb
    obtain ⟨a1, a2, a3, a4⟩ := nu_ext hx h1'
    have sz : (itB (nuV S k)).size = nuK S k - k := by rw [a2, ext_size a3 a4]
    refine ⟨a1, fun j hj => ?_, ?_⟩
    · show k + j < S.size ∧ bt S (k + j) = bt (itB (nuV S k)) j
      replace hj : j < (itB (nuV S k)).size := hj
      rw [sz] at hj
      exact ⟨by omega, by rw [a2, bt_ext (by omega)]⟩
    · show nuK S k = k + (itB (nuV S k)).size
      rw [sz]; omega
  · intro S k v hk hv l1 hf
    obtain ⟨v1, v2⟩ := inT_iff.1 hv
    have hd : dg S (k + (itB v).size) = false := dg_no fun g => by
      unfold nxB at hf
      rw [if_pos g.1] at hf
      exact hf g.2
    have key : nuB S k = false ∧ nuK S k = k + (itB v).size ∧ nuV S k = v := by
      rcases Int.lt_or_le v 0 with c | c
      · obtain ⟨n, rfl⟩ : ∃ n : Nat, v = -(n : Int) := ⟨v.natAbs, by omega⟩
        have n1 : 1 ≤ n := by omega
        rw [itB_neg n1] at l1 hd ⊢
        obtain ⟨m1, m2⟩ := lies_app l1
        have q0 := m1 0 (by decide)
        rw [Nat.add_zero] at q0
        have sz : ((⟨#[45]⟩ : ByteArray) ++ dcF 10 n).size = 1 + (dcF 10 n).size := by rw [ByteArray.size_append]; rfl
        rw [sz] at hd ⊢
        rw [← Nat.add_assoc] at hd ⊢
        exact nu_nat (dec_of (by omega)) n1 q0.1 q0.2 m2 hd
      · obtain ⟨n, rfl⟩ : ∃ n : Nat, v = (n : Int) := ⟨v.toNat, by omega⟩
        rw [itB_pos] at l1 hd ⊢
        exact nu_at (dec_of (by omega)) l1 hd
    obtain ⟨k1, k2, k3⟩ := key
    show ((nuV S k, (⟨nuK S k, false || nuB S k⟩ : Sc)) : Int × Sc) = _
    rw [k1, k2, k3]; rfl
theorem rf_I : Rf noId yI (fun s => s) (fun s => idn s = true) := by
  constructor
  · rintro S ⟨k, b⟩ hx hb
    obtain rfl : b = false := gd_I.ok hb
    replace hx : k ≤ S.size := hx
    have h1 : idB S k = false := hb
    have hL := (idL_le S k hx).2
    have eV : idV S k = S.extract k (k + idL S k) := by unfold idV; rw [h1]; rfl
    have sz : (idV S k).size = idL S k := by rw [eV, ext_size (by omega) hL]; omega
    refine ⟨?_, fun j hj => ?_, ?_⟩
    · show idn (idV S k) = true
      rw [eV, idn_fin hx, h1]; rfl
    · show k + j < S.size ∧ bt S (k + j) = bt (idV S k) j
      replace hj : j < (idV S k).size := hj
      rw [sz] at hj
      exact ⟨by omega, by rw [eV, bt_ext (by omega)]⟩
    · show k + idL S k = k + (idV S k).size
      rw [sz]
  · intro S k v hk hv l1 hf
    have hi := id_at hk hv l1 (fun g => by unfold nxB at hf; rw [if_pos g] at hf; exact hf)
    have eV : idV S k = v := by
      unfold idV
      rw [hi.2, hi.1]
      show S.extract k (k + v.size) = v
      have hle := l1.len hk
      refine bt_inj (by rw [ext_size (by omega) hle]; omega) fun j hj => ?_
      rw [ext_size (by omega) hle] at hj
      rw [bt_ext (by omega), (l1 j (by omega)).2]
    show ((idV S k, (⟨k + idL S k, false || idB S k⟩ : Sc)) : ByteArray × Sc) = _
    rw [eV, hi.1, hi.2]; rfl
/-! the end of a line -/
theorem txs2_len (w : ByteArray) : ∀ l : List ByteArray, txs2 w l = ByteArray.empty ∨ ∃ r, txs2 w l = w ++ r
  | [] => .inl rfl
  | s :: l => .inr ⟨s ++ txs2 w l, rfl⟩
theorem fst_app {a b : ByteArray} (h : 1 ≤ a.size) : 1 ≤ (a ++ b).size ∧ bt (a ++ b) 0 = bt a 0 := ⟨by rw [ByteArray.size_append]; omega, by rw [bt_app, if_pos (by omega)]⟩
theorem txo_fst (co om : List ByteArray) : 1 ≤ (txs2 wWi co ++ (txs2 wWo om ++ wLf)).size ∧ (bt (txs2 wWi co ++ (txs2 wWo om ++ wLf)) 0 = 32 ∨ bt (txs2 wWi co ++ (txs2 wWo om ++ wLf)) 0 = 10) := by
  rcases txs2_len wWi co with e | ⟨r, e⟩
  · rw [e, ByteArray.empty_append]
    rcases txs2_len wWo om with e | ⟨r, e⟩
    · rw [e, ByteArray.empty_append]; exact ⟨by decide, .inr (by decide)⟩
    · rw [e, ByteArray.append_assoc]
      have := fst_app (a := wWo) (b := r ++ wLf) (by decide)
      exact ⟨this.1, .inl (this.2.trans (by decide))⟩
  · rw [e, ByteArray.append_assoc]
    have := fst_app (a := wWi) (b := r ++ (txs2 wWo om ++ wLf)) (by decide)
    exact ⟨this.1, .inl (this.2.trans (by decide))⟩
theorem noid_of {c : Int} (h : c = 32 ∨ c = 10) : noId c := by unfold noId; omega
theorem nodg_of {c : Int} (h : c = 32 ∨ c = 10) : noDg c := by unfold noDg; omega
/-- What the loop over the other celebrations yields: lists behind those that it began with. -/
def okO (n : Nat) (t : Bool) (co om : List ByteArray) (c1 o1 : List ByteArray) (z : List ByteArray × List ByteArray) : Prop :=
  z = (co ++ c1, om ++ o1) ∧ c1.length + o1.length ≤ n ∧ (∀ s ∈ c1, idn s = true) ∧ (∀ s ∈ o1, idn s = true) ∧ (t = true → c1 = [])
theorem lO_2 {t : Bool} {i : Int} (h : 0 ≤ i ∧ i < (lO t).length) (h2 : i = 2) : t = false ∧ (lO t).getD i.toNat ByteArray.empty = wWi := by
  subst h2
  cases t
  · exact ⟨rfl, rfl⟩
  · have e : (lO true).length = 2 := rfl
    rw [e] at h; omega
theorem lO_1 (t : Bool) : (lO t).getD (1 : Int).toNat ByteArray.empty = wWo := by cases t <;> rfl
theorem lO_0 (t : Bool) : (lO t).getD (0 : Int).toNat ByteArray.empty = wLf := by cases t <;> rfl
theorem lO_len (t : Bool) : (lO t).length ≤ 3 ∧ 2 ≤ (lO t).length ∧ (t = false → (lO t).length = 3) := by cases t <;> exact ⟨by decide, by decide, by decide⟩
theorem oth_so : ∀ (n : Nat) (t : Bool) (co om : List ByteArray) (S : ByteArray) (x : Sc), x.k ≤ S.size → (kOth n t co om S x).2.b = false →
    ∃ c1 o1, okO n t co om c1 o1 (kOth n t co om S x).1 ∧ LiesAt S x.k (txs2 wWi c1 ++ (txs2 wWo o1 ++ wLf)) ∧ (kOth n t co om S x).2.k = x.k + (txs2 wWi c1 ++ (txs2 wWo o1 ++ wLf)).size
  | 0, t, co, om, S, x, hx, hb => by
    obtain ⟨a1, a2, a3⟩ := (rd_WB wds_wLf.ok (rd_R (co, om)) (gd_R _)).so S x hx hb
    refine ⟨[], [], ⟨by rw [List.append_nil, List.append_nil]; exact a1, by simp, by simp, by simp, fun _ => rfl⟩, ?_, ?_⟩
    · have e : txs2 wWi [] ++ (txs2 wWo [] ++ wLf) = wLf ++ ByteArray.empty := by show ByteArray.empty ++ (ByteArray.empty ++ wLf) = _; rw [ByteArray.empty_append, ByteArray.empty_append, ByteArray.append_empty]
      rw [e]; exact a2
    · have e : txs2 wWi [] ++ (txs2 wWo [] ++ wLf) = wLf ++ ByteArray.empty := by show ByteArray.empty ++ (ByteArray.empty ++ wLf) = _; rw [ByteArray.empty_append, ByteArray.empty_append, ByteArray.append_empty]
      rw [e]; exact a3
  | n + 1, t, co, om, S, x, hx, hb => by
    have hW : (yW (lO t) S x).2.b = false := by
      cases q : (yW (lO t) S x).2.b
      · rfl
      · have G : ∀ i : Int, Gk (if i = 2 then yB yI fun s => kOth n t (co ++ [s]) om else if i = 1 then yB yI fun s => kOth n true co (om ++ [s]) else yR (co, om)) := fun i => gd_if (gd_B gd_I fun _ => gk_Oth n _ _ _) (gd_if (gd_B gd_I fun _ => gk_Oth n _ _ _) (gd_R _))
        have := (G (yW (lO t) S x).1).bad S (yW (lO t) S x).2 q
        have hb' : ((if (yW (lO t) S x).1 = 2 then yB yI fun s => kOth n t (co ++ [s]) om else if (yW (lO t) S x).1 = 1 then yB yI fun s => kOth n true co (om ++ [s]) else yR (co, om)) S (yW (lO t) S x).2).2.b = false := hb
        rw [this, q] at hb'
        cases hb'
    obtain ⟨a1, a2, a3⟩ := (rd_W (wds_lO t).ok).so S x hx hW
    have hk1 := ((gd_W (lO t)).le S x hx).2
    have eK : kOth (n + 1) t co om S x = (if (yW (lO t) S x).1 = 2 then yB yI fun s => kOth n t (co ++ [s]) om else if (yW (lO t) S x).1 = 1 then yB yI fun s => kOth n true co (om ++ [s]) else yR (co, om)) S (yW (lO t) S x).2 := rfl
    rw [eK] at hb ⊢
    generalize hy : yW (lO t) S x = y at *
    obtain ⟨i, y⟩ := y
    simp only at hb hW a1 a2 a3 hk1 ⊢
    by_cases c2 : i = 2
    · obtain ⟨rfl, ew⟩ := lO_2 a1 c2
      rw [if_pos c2] at hb ⊢
      rw [ew] at a2 a3
      have hI : (yI S y).2.b = false := (gk_Oth n _ _ _).ok hb
      obtain ⟨b1, b2, b3⟩ := rf_I.so S y hk1 hI
      obtain ⟨c1, o1, ⟨d1, d2, d3, d4, d5⟩, d6, d7⟩ := oth_so n false (co ++ [(yI S y).1]) om S (yI S y).2 (gd_I.le S y hk1).2 hb
      refine ⟨(yI S y).1 :: c1, o1, ⟨?_, ?_, ?_, d4, fun h => by cases h⟩, ?_, ?_⟩
      · show (kOth n false (co ++ [(yI S y).1]) om S (yI S y).2).1 = _
        rw [d1, List.append_assoc]; rfl
      · simp only [List.length_cons]; omega
      · intro s hs
        rcases List.mem_cons.1 hs with rfl | hs
        · exact b1
        · exact d3 s hs
      · show LiesAt S x.k ((wWi ++ ((yI S y).1 ++ txs2 wWi c1)) ++ (txs2 wWo o1 ++ wLf))
        rw [ByteArray.append_assoc, ByteArray.append_assoc]
        refine lies_join a2 (lies_join (by rw [← a3]; exact b2) ?_)
        rw [← a3, ← b3]; exact d6
      · show (kOth n false (co ++ [(yI S y).1]) om S (yI S y).2).2.k = x.k + ((wWi ++ ((yI S y).1 ++ txs2 wWi c1)) ++ (txs2 wWo o1 ++ wLf)).size
        rw [d7, b3, a3, ByteArray.append_assoc, ByteArray.append_assoc, ByteArray.size_append (a := wWi), ByteArray.size_append (a := (yI S y).1)]; omega
    · rw [if_neg c2] at hb ⊢
      by_cases c1' : i = 1
      · subst c1'
        rw [if_pos rfl] at hb ⊢
        rw [lO_1] at a2 a3
        have hI : (yI S y).2.b = false := (gk_Oth n _ _ _).ok hb
        obtain ⟨b1, b2, b3⟩ := rf_I.so S y hk1 hI
        obtain ⟨c1, o1, ⟨d1, d2, d3, d4, d5⟩, d6, d7⟩ := oth_so n true co (om ++ [(yI S y).1]) S (yI S y).2 (gd_I.le S y hk1).2 hb
        obtain rfl := d5 rfl
        have e0 : txs2 wWi [] ++ (txs2 wWo o1 ++ wLf) = txs2 wWo o1 ++ wLf := ByteArray.empty_append
        rw [e0] at d6 d7
        refine ⟨[], (yI S y).1 :: o1, ⟨?_, ?_, by simp, ?_, fun _ => rfl⟩, ?_, ?_⟩
        · show (kOth n true co (om ++ [(yI S y).1]) S (yI S y).2).1 = _
          rw [d1, List.append_assoc]; rfl
        · simp only [List.length_cons, List.length_nil] at d2 ⊢; omega
        · intro s hs
          rcases List.mem_cons.1 hs with rfl | hs
          · exact b1
          · exact d4 s hs
        · show LiesAt S x.k (ByteArray.empty ++ ((wWo ++ ((yI S y).1 ++ txs2 wWo o1)) ++ wLf))
          rw [ByteArray.empty_append, ByteArray.append_assoc, ByteArray.append_assoc]
          refine lies_join a2 (lies_join (by rw [← a3]; exact b2) ?_)
          rw [← a3, ← b3]; exact d6
        · show (kOth n true co (om ++ [(yI S y).1]) S (yI S y).2).2.k = x.k + (ByteArray.empty ++ ((wWo ++ ((yI S y).1 ++ txs2 wWo o1)) ++ wLf)).size
          rw [d7, b3, a3, ByteArray.empty_append, ByteArray.append_assoc, ByteArray.append_assoc, ByteArray.size_append (a := wWo), ByteArray.size_append (a := (yI S y).1)]; omega
      · rw [if_neg c1'] at hb ⊢
        have hl := (lO_len t).1
        obtain rfl : i = 0 := by omega
        rw [lO_0] at a2 a3
        refine ⟨[], [], ⟨by rw [List.append_nil, List.append_nil]; rfl, by simp, by simp, by simp, fun _ => rfl⟩, ?_, ?_⟩
        · show LiesAt S x.k (ByteArray.empty ++ (ByteArray.empty ++ wLf))
          rw [ByteArray.empty_append, ByteArray.empty_append]; exact a2
        · show y.k = x.k + (ByteArray.empty ++ (ByteArray.empty ++ wLf)).size
          rw [ByteArray.empty_append, ByteArray.empty_append]; exact a3
theorem oth_co : ∀ (n : Nat) (t : Bool) (co om c1 o1 : List ByteArray) (S : ByteArray) (k : Nat), k ≤ S.size → c1.length + o1.length ≤ n → (∀ s ∈ c1, idn s = true) → (∀ s ∈ o1, idn s = true) → (t = true → c1 = []) → LiesAt S k (txs2 wWi c1 ++ (txs2 wWo o1 ++ wLf)) →
    kOth n t co om S ⟨k, false⟩ = ((co ++ c1, om ++ o1), ⟨k + (txs2 wWi c1 ++ (txs2 wWo o1 ++ wLf)).size, false⟩)
  | 0, t, co, om, c1, o1, S, k, hk, hn, _, _, _, hl => by
    obtain rfl : c1 = [] := List.length_eq_zero_iff.1 (by omega)
    obtain rfl : o1 = [] := List.length_eq_zero_iff.1 (by omega)
    have e : txs2 wWi [] ++ (txs2 wWo [] ++ wLf) = wLf := by show ByteArray.empty ++ (ByteArray.empty ++ wLf) = _; rw [ByteArray.empty_append, ByteArray.empty_append]
    rw [e] at hl ⊢
    have := (rd_W1 wds_wLf.ok).co S k 0 hk rfl hl
    show yR (co, om) S (yW [wLf] S ⟨k, false⟩).2 = _
    rw [this, List.append_nil, List.append_nil]; rfl
  | n + 1, t, co, om, [], [], S, k, hk, hn, _, _, _, hl => by
    have e : txs2 wWi [] ++ (txs2 wWo [] ++ wLf) = wLf := by show ByteArray.empty ++ (ByteArray.empty ++ wLf) = _; rw [ByteArray.empty_append, ByteArray.empty_append]
    rw [e] at hl ⊢
    have := (rd_W (wds_lO t).ok).co S k 0 hk ⟨by omega, by have := (lO_len t).2.1; omega⟩ (by rw [lO_0]; exact hl)
    rw [lO_0] at this
    show (if (yW (lO t) S ⟨k, false⟩).1 = 2 then yB yI fun s => kOth n t (co ++ [s]) om else if (yW (lO t) S ⟨k, false⟩).1 = 1 then yB yI fun s => kOth n true co (om ++ [s]) else yR (co, om)) S (yW (lO t) S ⟨k, false⟩).2 = _
    rw [this, List.append_nil, List.append_nil]; rfl
  | n + 1, t, co, om, [], s :: o1, S, k, hk, hn, hc, ho, _, hl => by
    have e : txs2 wWi [] ++ (txs2 wWo (s :: o1) ++ wLf) = wWo ++ (s ++ (txs2 wWi [] ++ (txs2 wWo o1 ++ wLf))) := by
      show ByteArray.empty ++ ((wWo ++ (s ++ txs2 wWo o1)) ++ wLf) = wWo ++ (s ++ (ByteArray.empty ++ (txs2 wWo o1 ++ wLf)))
      rw [ByteArray.empty_append, ByteArray.empty_append, ByteArray.append_assoc, ByteArray.append_assoc]
    rw [e] at hl ⊢
    obtain ⟨l1, l2⟩ := lies_app hl
    obtain ⟨l3, l4⟩ := lies_app l2
    have h1 := (rd_W (wds_lO t).ok).co S k 1 hk ⟨by omega, by have := (lO_len t).2.1; omega⟩ (by rw [lO_1]; exact l1)
    rw [lO_1] at h1
    have f0 := txo_fst [] o1
    have h2 := rf_I.co S (k + wWo.size) s (l1.len hk) (ho s (by simp)) l3 (by rw [nxb_lies l4 f0.1]; exact noid_of f0.2)
    have h3 := oth_co n true co (om ++ [s]) [] o1 S (k + wWo.size + s.size) (l3.len (l1.len hk)) (by simp only [List.length_cons, List.length_nil] at hn ⊢; omega) hc (fun u hu => ho u (by simp [hu])) (fun _ => rfl) l4
    show (if (yW (lO t) S ⟨k, false⟩).1 = 2 then yB yI fun s => kOth n t (co ++ [s]) om else if (yW (lO t) S ⟨k, false⟩).1 = 1 then yB yI fun s => kOth n true co (om ++ [s]) else yR (co, om)) S (yW (lO t) S ⟨k, false⟩).2 = _
    rw [h1]
    show kOth n true co (om ++ [(yI S ⟨k + wWo.size, false⟩).1]) S (yI S ⟨k + wWo.size, false⟩).2 = _
    rw [h2]
    show kOth n true co (om ++ [s]) S ⟨k + wWo.size + s.size, false⟩ = _
    rw [h3, List.append_assoc, ByteArray.size_append (a := wWo), ByteArray.size_append (a := s), Nat.add_assoc, Nat.add_assoc]; rfl
  | n + 1, t, co, om, s :: c1, o1, S, k, hk, hn, hc, ho, ht, hl => by
    obtain rfl : t = false := by
      cases t
      · rfl
      · cases ht rfl
    have e : txs2 wWi (s :: c1) ++ (txs2 wWo o1 ++ wLf) = wWi ++ (s ++ (txs2 wWi c1 ++ (txs2 wWo o1 ++ wLf))) := by
      show (wWi ++ (s ++ txs2 wWi c1)) ++ (txs2 wWo o1 ++ wLf) = _
      rw [ByteArray.append_assoc, ByteArray.append_assoc]
    rw [e] at hl ⊢
    obtain ⟨l1, l2⟩ := lies_app hl
    obtain ⟨l3, l4⟩ := lies_app l2
    have h1 := (rd_W (wds_lO false).ok).co S k 2 hk ⟨by omega, by decide⟩ l1
    have f0 := txo_fst c1 o1
    have h2 := rf_I.co S (k + wWi.size) s (l1.len hk) (hc s (by simp)) l3 (by rw [nxb_lies l4 f0.1]; exact noid_of f0.2)
    have h3 := oth_co n false (co ++ [s]) om c1 o1 S (k + wWi.size + s.size) (l3.len (l1.len hk)) (by simp only [List.length_cons] at hn ⊢; omega) (fun u hu => hc u (by simp [hu])) ho (fun h => by cases h) l4
    show (if (yW (lO false) S ⟨k, false⟩).1 = 2 then yB yI fun s => kOth n false (co ++ [s]) om else if (yW (lO false) S ⟨k, false⟩).1 = 1 then yB yI fun s => kOth n true co (om ++ [s]) else yR (co, om)) S (yW (lO false) S ⟨k, false⟩).2 = _
    rw [h1]
    show kOth n false (co ++ [(yI S ⟨k + wWi.size, false⟩).1]) om S (yI S ⟨k + wWi.size, false⟩).2 = _
    rw [h2]
    show kOth n false (co ++ [s]) om S ⟨k + wWi.size + s.size, false⟩ = _
    rw [h3, List.append_assoc, ByteArray.size_append (a := wWi), ByteArray.size_append (a := s), Nat.add_assoc, Nat.add_assoc]; rfl
end Go.Proofs.YtkhicgafhbecfaaGreatDoor
