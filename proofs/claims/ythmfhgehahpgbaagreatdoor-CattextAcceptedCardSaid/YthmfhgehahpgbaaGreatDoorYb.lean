/- Reading a text as a chain of steps, plain: where the scanner stands is handed on; what every chain keeps (Gk); two texts that agree up to an offset behind which one of them is dead (SmW, SmB, KpW, KpB). -/
import Derived.Test.YthmfhgehahpgbaaGreatDoorM7
import Derived.Test.YthmfhgehahpgbaaGreatDoorYa
namespace Go.Proofs.YthmfhgehahpgbaaGreatDoor
open Go.RowKit

/-- Where a scanner stands, and whether it has failed. -/
structure Sc where
  k : Nat
  b : Bool
abbrev Prs (α : Type) := ByteArray → Sc → α × Sc
def yW (ws : List ByteArray) : Prs Int := fun S x => (fwI x.b S x.k ws, ⟨fwK x.b S x.k ws, fwB x.b S x.k ws⟩)
def yNu : Prs Int := fun S x => (fnV x.b S x.k, ⟨fnK x.b S x.k, fnB x.b S x.k⟩)
def yI : Prs ByteArray := fun S x => (fiV x.b S x.k, ⟨fiK x.b S x.k, fiB x.b S x.k⟩)
def yR {α : Type} (a : α) : Prs α := fun _ x => (a, x)
def yB {α β : Type} (f : Prs α) (g : α → Prs β) : Prs β := fun S x => g (f S x).1 S (f S x).2
/-- What every step keeps. -/
structure Gk {α : Type} (f : Prs α) : Prop where
  le : ∀ S x, x.k ≤ S.size → x.k ≤ (f S x).2.k ∧ (f S x).2.k ≤ S.size
  bad : ∀ S x, x.b = true → (f S x).2 = x
theorem Gk.ok {α : Type} {f : Prs α} (h : Gk f) {S : ByteArray} {x : Sc} (e : (f S x).2.b = false) : x.b = false := by
  cases q : x.b
  · rfl
  · rw [h.bad S x q, q] at e; cases e
theorem gd_W (ws : List ByteArray) : Gk (yW ws) := by
  constructor
  · rintro S ⟨k, b⟩ hk
    cases b
    · exact wdK_le hk ws
    · exact ⟨Nat.le_refl _, hk⟩
  · rintro S ⟨k, b⟩ hb
    obtain rfl : b = true := hb
    rfl
theorem gd_N : Gk yNu := by
  constructor
  · rintro S ⟨k, b⟩ hk
    cases b
    · exact nuK_le S k hk
    · exact ⟨Nat.le_refl _, hk⟩
  · rintro S ⟨k, b⟩ hb
    obtain rfl : b = true := hb
    rfl
theorem gd_I : Gk yI := by
  constructor
  · rintro S ⟨k, b⟩ hk
    cases b
    · exact ⟨Nat.le_add_right _ _, (idL_le S k hk).2⟩
    · exact ⟨Nat.le_refl _, hk⟩
  · rintro S ⟨k, b⟩ hb
    obtain rfl : b = true := hb
    rfl
theorem gd_R {α : Type} (a : α) : Gk (yR a) := ⟨fun _ _ h => ⟨Nat.le_refl _, h⟩, fun _ _ _ => rfl⟩
theorem gd_B {α β : Type} {f : Prs α} {g : α → Prs β} (hf : Gk f) (hg : ∀ a, Gk (g a)) : Gk (yB f g) := by
  constructor
  · intro S x hk
    obtain ⟨a, b⟩ := hf.le S x hk
    obtain ⟨c, d⟩ := (hg (f S x).1).le S (f S x).2 b
    exact ⟨Nat.le_trans a c, d⟩
  · intro S x hb
    have e := hf.bad S x hb
    show (g (f S x).1 S (f S x).2).2 = x
    rw [e]
    exact (hg _).bad S x hb

/-! two texts -/
/-- S and T have the first k bytes in common; behind them S ends, or goes on with a byte that no text has. -/
structure Agr (S T : ByteArray) (k : Nat) : Prop where
  hS : k ≤ S.size
  hT : k ≤ T.size
  eq : ∀ i, i < k → bt S i = bt T i
  dead : k < S.size → bt S k = 33
/-- No word has the byte 33. -/
def No33 (ws : List ByteArray) : Prop := ∀ w ∈ ws, ∀ i, i < w.size → bt w i ≠ 33
def no33B (ws : List ByteArray) : Bool := ws.all fun w => (List.range w.size).all fun i => !decide (bt w i = 33)
theorem no33_of {ws : List ByteArray} (h : no33B ws = true) : No33 ws := by
  intro w hw i hi e
  have h1 := List.all_eq_true.1 h w hw
  have h2 := List.all_eq_true.1 h1 i (List.mem_range.2 hi)
  rw [dtrue e] at h2
  cases h2
section
variable {S T : ByteArray} {k : Nat}
theorem cm_agr (A : Agr S T k) {j : Nat} (hj : j ≤ k) {w : ByteArray} (hw : ∀ i, i < w.size → bt w i ≠ 33) : cm S j w = min (cm T j w) (k - j) := by
  obtain ⟨a1, a2, a3⟩ := cm_spec T j w
  have hs := A.hS
  refine cm_eq (by omega) (fun i hi => ?_) ?_
  · have := a2 i (by omega)
    exact ⟨by omega, by rw [A.eq (j + i) (by omega)]; exact this.2⟩
  · by_cases c : cm T j w ≤ k - j
    · rw [Nat.min_eq_left c]
      rcases a3 with e | e
      · exact .inl e
      · by_cases d : cm T j w = w.size
        · exact .inl d
        · right
          rintro ⟨g1, g2⟩
          by_cases q : j + cm T j w < k
          · exact e ⟨by have := A.hT; omega, by rw [← A.eq _ q]; exact g2⟩
          · have ek : j + cm T j w = k := by omega
            rw [ek] at g1 g2
            rw [A.dead g1] at g2
            exact hw _ (by omega) g2.symm
    · rw [Nat.min_eq_right (by omega)]
      right
      rintro ⟨g1, g2⟩
      have ek : j + (k - j) = k := by omega
      rw [ek] at g1 g2
      rw [A.dead g1] at g2
      exact hw _ (by omega) g2.symm
theorem dgs_agr (A : Agr S T k) {i n : Nat} (hi : i ≤ k) : dgs S i n = min (dgs T i n) (k - i) := by
  have h1 := dgs_le T i n
  have h2 := dgs_all T n i
  have h3 := dgs_end T n i
  have hs := A.hS
  refine dgs_eq (by omega) (fun j hj => ?_) ?_
  · have q := dg_iff.1 (h2 j (by omega))
    have e := A.eq (i + j) (by omega)
    exact dg_iff.2 ⟨by omega, by rw [e]; exact q.2.1, by rw [e]; exact q.2.2⟩
  · have dd : dg S k = false := dg_no fun h => by have := A.dead h.1; omega
    by_cases c : dgs T i n ≤ k - i
    · rw [Nat.min_eq_left c]
      rcases h3 with e | e
      · exact .inl e
      · right
        by_cases q : i + dgs T i n < k
        · have e2 := A.eq _ q
          refine dg_no fun g => ?_
          have hT := A.hT
          rw [dg_iff.2 ⟨by omega, by rw [← e2]; exact g.2.1, by rw [← e2]; exact g.2.2⟩] at e
          cases e
        · rw [show i + dgs T i n = k by omega]; exact dd
    · rw [Nat.min_eq_right (by omega), show i + (k - i) = k by omega]
      exact .inr dd
theorem idL_agr (A : Agr S T k) {j : Nat} (hj : j ≤ k) : idL S j = min (idL T j) (k - j) := by
  obtain ⟨h1, h2⟩ := idL_all T j
  have hs := A.hS
  have hT := A.hT
  have bf : ∀ i, j + i ≤ k → bfo S j i = bfo T j i := fun i hi => by
    unfold bfo
    by_cases q : i = 0
    · rw [if_pos q, if_pos q]
    · rw [if_neg q, if_neg q, A.eq _ (by omega)]
  refine idL_eq (fun i hi => ?_) ?_
  · obtain ⟨a, b, c⟩ := h1 i (by omega)
    refine ⟨by omega, b, ?_⟩
    rw [A.eq _ (by omega), bf i (by omega)]
    exact c
  · have dd : ¬ idP S j (k - j) := fun g => by
      obtain ⟨a, b, c⟩ := g
      rw [show j + (k - j) = k by omega] at a c
      rw [A.dead a] at c
      omega
    by_cases c : idL T j ≤ k - j
    · rw [Nat.min_eq_left c]
      by_cases q : j + idL T j < k
      · intro g
        obtain ⟨a, b, c⟩ := g
        refine h2 ⟨by omega, b, ?_⟩
        rw [← A.eq _ q, ← bf _ (by omega)]
        exact c
      · rw [show idL T j = k - j by omega]; exact dd
    · rw [Nat.min_eq_right (by omega)]
      exact dd
end
section
variable (S T : ByteArray) (k : Nat)
/-- As long as T is read without a failure, S is read alike, or is stuck at k. -/
def SmW {α : Type} (f : Prs α) : Prop := ∀ x : Sc, x.b = false → x.k ≤ k → (f T x).2.b = false → ((f T x).2.k ≤ k ∧ f S x = f T x) ∨ (k < (f T x).2.k ∧ (f S x).2.k = k)
/-- .. or has failed at k. -/
def SmB {α : Type} (f : Prs α) : Prop := ∀ x : Sc, x.b = false → x.k ≤ k → (f T x).2.b = false → ((f T x).2.k ≤ k ∧ f S x = f T x) ∨ (k < (f T x).2.k ∧ (f S x).2 = ⟨k, true⟩)
def KpW {α : Type} (f : Prs α) : Prop := ∀ x : Sc, x.k = k → (f S x).2.k = k
def KpB {α : Type} (f : Prs α) : Prop := ∀ x : Sc, x.k = k → (f S x).2 = ⟨k, true⟩
variable {S T k}
theorem SmB.w {α : Type} {f : Prs α} (h : SmB S T k f) : SmW S T k f := fun x h1 h2 h3 => (h x h1 h2 h3).imp id fun ⟨a, b⟩ => ⟨a, by rw [b]⟩
theorem KpB.w {α : Type} {f : Prs α} (h : KpB S k f) : KpW S k f := fun x h1 => by rw [h x h1]
theorem smB_R {α : Type} (a : α) : SmB S T k (yR a) := fun _ _ h _ => .inl ⟨h, rfl⟩
theorem kpW_R {α : Type} (a : α) : KpW S k (yR a) := fun _ h => h
theorem smB_B {α β : Type} {f : Prs α} {g : α → Prs β} (hf : SmB S T k f) (hg : ∀ a, SmB S T k (g a)) (G : ∀ a, Gk (g a)) (hT : k ≤ T.size) (Gf : Gk f) : SmB S T k (yB f g) := by
  intro x h1 h2 h3
  have hb : (f T x).2.b = false := (G _).ok h3
  rcases hf x h1 h2 hb with ⟨a, e⟩ | ⟨a, e⟩
  · have := hg (f T x).1 (f T x).2 hb a h3
    show _ ∨ (_ ∧ (g (f S x).1 S (f S x).2).2 = _)
    rw [show yB f g S x = g (f S x).1 S (f S x).2 from rfl, e]
    exact this
  · right
    have l1 := (Gf.le T x (by omega)).2
    have l2 := ((G (f T x).1).le T (f T x).2 l1).1
    refine ⟨Nat.lt_of_lt_of_le a l2, ?_⟩
    show (g (f S x).1 S (f S x).2).2 = _
    rw [e]
    exact (G _).bad S _ rfl
theorem smB_Bw {α β : Type} {f : Prs α} {g : α → Prs β} (hf : SmW S T k f) (hg : ∀ a, SmB S T k (g a)) (K : ∀ a, KpB S k (g a)) (G : ∀ a, Gk (g a)) (hT : k ≤ T.size) (Gf : Gk f) : SmB S T k (yB f g) := by
  intro x h1 h2 h3
  have hb : (f T x).2.b = false := (G _).ok h3
  rcases hf x h1 h2 hb with ⟨a, e⟩ | ⟨a, e⟩
  · have := hg (f T x).1 (f T x).2 hb a h3
    show _ ∨ (_ ∧ (g (f S x).1 S (f S x).2).2 = _)
    rw [show yB f g S x = g (f S x).1 S (f S x).2 from rfl, e]
    exact this
  · right
    have l1 := (Gf.le T x (by omega)).2
    have l2 := ((G (f T x).1).le T (f T x).2 l1).1
    refine ⟨Nat.lt_of_lt_of_le a l2, ?_⟩
    exact K (f S x).1 (f S x).2 e
theorem kpB_B {α β : Type} {f : Prs α} {g : α → Prs β} (hf : KpB S k f) (G : ∀ a, Gk (g a)) : KpB S k (yB f g) := fun x h => by
  show (g (f S x).1 S (f S x).2).2 = _
  rw [hf x h]
  exact (G _).bad S _ rfl
theorem kpB_Bw {α β : Type} {f : Prs α} {g : α → Prs β} (hf : KpW S k f) (K : ∀ a, KpB S k (g a)) : KpB S k (yB f g) := fun x h => K (f S x).1 (f S x).2 (hf x h)
theorem kpB_W (A : Agr S T k) {ws : List ByteArray} (hw : Wok ws) (h3 : No33 ws) : KpB S k (yW ws) := by
  rintro ⟨j, b⟩ hj
  obtain rfl : j = k := hj
  cases b
  · have c0 : ∀ w ∈ ws, cm S j w = 0 := fun w h => by rw [cm_agr A (Nat.le_refl _) (h3 w h)]; omega
    have e : wdF S j ws = none := wdF_is_none fun i hi => dfalse (by rw [c0 _ (getD_mem hi)]; have := hw.1 i hi; omega)
    have m0 : mxW S j ws = 0 := Nat.le_antisymm (mxW_le fun w h => by rw [c0 w h]; exact Nat.le_refl _) (Nat.zero_le _)
    show (Sc.mk (wdK S j ws) (false || wdB S j ws)) = _
    unfold wdK wdB
    rw [e, m0]
    rfl
  · rfl
theorem smB_W (A : Agr S T k) {ws : List ByteArray} (hw : Wok ws) (h3 : No33 ws) : SmB S T k (yW ws) := by
  rintro ⟨j, b⟩ hb hj hT
  obtain rfl : b = false := hb
  replace hj : j ≤ k := hj
  replace hT : (false || wdB T j ws) = false := hT
  cases e : wdF T j ws with
  | none => unfold wdB at hT; rw [e] at hT; cases hT
  | some i =>
    obtain ⟨i1, i2, i3⟩ := wdF_some e
    have l1 := hw.1 i i1
    have ci : cm T j (ws.getD i ByteArray.empty) = (ws.getD i ByteArray.empty).size := of_decide_eq_true i2
    have cc : ∀ n, n < ws.length → cm S j (ws.getD n ByteArray.empty) = min (cm T j (ws.getD n ByteArray.empty)) (k - j) := fun n hn => cm_agr A hj (h3 _ (getD_mem hn))
    have eT : yW ws T ⟨j, false⟩ = ((i : Int), ⟨j + (ws.getD i ByteArray.empty).size, false⟩) := by
      show ((wdI T j ws, (⟨wdK T j ws, false || wdB T j ws⟩ : Sc)) : Int × Sc) = _
      unfold wdI wdK wdB
      rw [e]; rfl
    rw [eT]
    by_cases c : j + (ws.getD i ByteArray.empty).size ≤ k
    · left
      refine ⟨c, ?_⟩
      have eS : wdF S j ws = some i := wdF_is i1 (dtrue (by rw [cc i i1, ci]; omega)) fun n hn => by
        have q := i3 n hn
        refine dfalse fun g => ?_
        have := cc n (by omega)
        have a2 := (cm_spec T j (ws.getD n ByteArray.empty)).1
        have : cm T j (ws.getD n ByteArray.empty) = (ws.getD n ByteArray.empty).size := by omega
        unfold hitB at q
        rw [dtrue this] at q
        cases q
      show ((wdI S j ws, (⟨wdK S j ws, false || wdB S j ws⟩ : Sc)) : Int × Sc) = _
      unfold wdI wdK wdB
      rw [eS]; rfl
    · right
      refine ⟨Nat.lt_of_not_le c, ?_⟩
      have eS : wdF S j ws = none := wdF_is_none fun n hn => dfalse fun g => by
        have h1 := cc n hn
        have h2 := (cm_spec T j (ws.getD n ByteArray.empty)).1
        have h4 : cm T j (ws.getD n ByteArray.empty) = (ws.getD n ByteArray.empty).size := by omega
        have h5 : n = i := wok_one hw hn i1 (dtrue h4) (by rw [ci]; omega)
        subst h5
        omega
      have m0 : mxW S j ws = k - j := Nat.le_antisymm (mxW_le fun w h => by rw [cm_agr A hj (h3 w h)]; omega) (by have := mxW_ge (S := S) (k := j) (getD_mem i1); rw [cc i i1, ci] at this; omega)
      show (Sc.mk (wdK S j ws) (false || wdB S j ws)) = _
      unfold wdK wdB
      rw [eS, m0]
      show Sc.mk (j + (k - j)) true = _
      rw [show j + (k - j) = k by omega]
theorem nu_dead (A : Agr S T k) : nuZ S k = false ∧ nuN S k = false ∧ nuI S k = k ∧ nuD S k = false := by
  have dd : dg S k = false := dg_no fun h => by have := A.dead h.1; omega
  have hz : nuZ S k = false := by
    unfold nuZ
    by_cases c : k < S.size
    · rw [A.dead c]; simp
    · rw [dfalse c]; rfl
  have hn : nuN S k = false := by
    unfold nuN
    by_cases c : k < S.size
    · rw [A.dead c]; simp
    · rw [dfalse c]; rfl
  have eI : nuI S k = k := by unfold nuI; rw [hn]; rfl
  exact ⟨hz, hn, eI, by unfold nuD; rw [eI, dd]; rfl⟩
theorem kpW_N (A : Agr S T k) : KpW S k yNu := by
  rintro ⟨j, b⟩ hj
  obtain rfl : j = k := hj
  cases b
  · obtain ⟨hz, _, eI, hd⟩ := nu_dead A
    show nuK S j = j
    unfold nuK
    rw [hz, hd, eI]; rfl
  · rfl
theorem smW_N (A : Agr S T k) : SmW S T k yNu := by
  rintro ⟨j, b⟩ hb hj hT
  obtain rfl : b = false := hb
  replace hj : j ≤ k := hj
  replace hT : (false || nuB T j) = false := hT
  rw [Bool.false_or] at hT
  have sS := A.hS
  have sT := A.hT
  by_cases hjk : j = k
  · subst hjk
    have h1 := kpW_N A ⟨j, false⟩ rfl
    have h2 := (nuK_le T j A.hT).1
    right
    refine ⟨?_, h1⟩
    show j < nuK T j
    cases hz : nuZ T j
    · cases hd : nuD T j
      · unfold nuB at hT; rw [hz, hd] at hT; cases hT
      · unfold nuK; rw [hz, hd]
        show j < nuI T j + dgs T (nuI T j) 10
        have d1 : dg T (nuI T j) = true := by unfold nuD at hd; simp only [Bool.and_eq_true] at hd; exact hd.1
        have m1 : 1 ≤ dgs T (nuI T j) 10 := by
          show 1 ≤ if dg T (nuI T j) then dgs T (nuI T j + 1) 9 + 1 else 0
          rw [d1, if_pos rfl]; omega
        have : j ≤ nuI T j := by unfold nuI; split <;> omega
        omega
    · unfold nuK; rw [hz]; exact Nat.lt_succ_self j
  · have hlt : j < k := by omega
    have e0 := A.eq j hlt
    have z0 : nuZ S j = nuZ T j := by unfold nuZ; rw [e0, dtrue (show j < S.size by omega), dtrue (show j < T.size by omega)]
    have n0 : nuN S j = nuN T j := by unfold nuN; rw [e0, dtrue (show j < S.size by omega), dtrue (show j < T.size by omega)]
    have i0 : nuI S j = nuI T j := by unfold nuI; rw [n0]
    cases hz : nuZ T j
    · cases hd : nuD T j
      · unfold nuB at hT; rw [hz, hd] at hT; cases hT
      · have hi : nuI T j ≤ k := by unfold nuI; split <;> omega
        have eKT : nuK T j = nuI T j + dgs T (nuI T j) 10 := by unfold nuK; rw [hz, hd]; rfl
        have dT : dg T (nuI T j) = true ∧ ¬ bt T (nuI T j) = 48 := by unfold nuD at hd; simpa using hd
        have m1 : 1 ≤ dgs T (nuI T j) 10 := by
          show 1 ≤ if dg T (nuI T j) then dgs T (nuI T j + 1) 9 + 1 else 0
          rw [dT.1, if_pos rfl]; omega
        by_cases hik : nuI T j = k
        · have dd : dg S k = false := dg_no fun h => by have := A.dead h.1; omega
          right
          refine ⟨by show k < nuK T j; omega, ?_⟩
          show nuK S j = k
          unfold nuK nuD
          rw [z0, hz, i0, hik, dd]; rfl
        · have e1 := A.eq (nuI T j) (by omega)
          have g := dg_iff.1 dT.1
          have dS : nuD S j = true := by
            unfold nuD
            rw [i0, dg_iff.2 ⟨by omega, by rw [e1]; exact g.2.1, by rw [e1]; exact g.2.2⟩, e1, dfalse dT.2]; rfl
          have da := dgs_agr A hi (n := 10)
          have eKS : nuK S j = nuI T j + dgs S (nuI T j) 10 := by unfold nuK; rw [z0, hz, dS, i0]; rfl
          by_cases c : nuK T j ≤ k
          · left
            refine ⟨c, ?_⟩
            have ed : dgs S (nuI T j) 10 = dgs T (nuI T j) 10 := by omega
            show ((nuV S j, (⟨nuK S j, false || nuB S j⟩ : Sc)) : Int × Sc) = (nuV T j, ⟨nuK T j, false || nuB T j⟩)
            have v0 : nuV S j = nuV T j := by
              unfold nuV
              rw [z0, hz, dS, hd, n0, i0, ed]
              have : vl S (nuI T j) (dgs T (nuI T j) 10) = vl T (nuI T j) (dgs T (nuI T j) 10) := vl_pre fun q hq => A.eq _ (by omega)
              rw [this]
            have b0 : nuB S j = nuB T j := by unfold nuB; rw [z0, dS, hd]
            rw [v0, b0, eKS, eKT, ed]
          · right
            refine ⟨Nat.lt_of_not_le c, ?_⟩
            show nuK S j = k
            omega
    · left
      have eT : nuK T j = j + 1 := by unfold nuK; rw [hz]; rfl
      have eS : nuK S j = j + 1 := by unfold nuK; rw [z0, hz]; rfl
      refine ⟨by show nuK T j ≤ k; omega, ?_⟩
      show ((nuV S j, (⟨nuK S j, false || nuB S j⟩ : Sc)) : Int × Sc) = (nuV T j, ⟨nuK T j, false || nuB T j⟩)
      have v0 : nuV S j = nuV T j := by unfold nuV; rw [z0, hz]; rfl
      have b0 : nuB S j = nuB T j := by unfold nuB; rw [z0, hz]; rfl
      rw [v0, b0, eT, eS]
theorem kpW_I (A : Agr S T k) : KpW S k yI := by
  rintro ⟨j, b⟩ hj
  obtain rfl : j = k := hj
  cases b
  · show j + idL S j = j
    have := idL_agr A (Nat.le_refl j)
    omega
  · rfl
theorem smW_I (A : Agr S T k) : SmW S T k yI := by
  rintro ⟨j, b⟩ hb hj hT
  obtain rfl : b = false := hb
  replace hj : j ≤ k := hj
  have sS := A.hS
  have sT := A.hT
  have ia := idL_agr A hj
  have iT := idL_le T j (by omega)
  by_cases c : j + idL T j ≤ k
  · left
    refine ⟨c, ?_⟩
    have ei : idL S j = idL T j := by omega
    have bS : idB S j = idB T j := by
      unfold idB bfo
      rw [ei]
      by_cases q : idL T j = 0
      · rw [if_pos q, if_pos q]
      · rw [if_neg q, if_neg q, A.eq _ (by omega)]
    have ex : S.extract j (j + idL T j) = T.extract j (j + idL T j) := bt_inj (by rw [ext_size (by omega) (by omega), ext_size (by omega) (by omega)]) fun q hq => by
      rw [ext_size (by omega) (by omega)] at hq
      rw [bt_ext (by omega), bt_ext (by omega), A.eq _ (by omega)]
    show ((idV S j, (⟨j + idL S j, false || idB S j⟩ : Sc)) : ByteArray × Sc) = (idV T j, ⟨j + idL T j, false || idB T j⟩)
    unfold idV
    rw [bS, ei, ex]
  · right
    refine ⟨Nat.lt_of_not_le c, ?_⟩
    show j + idL S j = k
    omega
/-- The next byte behind the place where a text is dead is none of those that are asked for. -/
theorem pk_dead (A : Agr S T k) {c : Int} (h0 : c ≠ 0) (h33 : c ≠ 33) (b : Bool) : fpV b S k ≠ c := by
  cases b
  · show nxB S k ≠ c
    by_cases q : k < S.size
    · rw [nx_lt q, A.dead q]; exact fun e => h33 e.symm
    · have : nxB S k = 0 := by unfold nxB; rw [if_neg q]
      rw [this]; exact fun e => h0 e.symm
  · exact fun e => h0 e.symm
theorem pk_same (A : Agr S T k) {j : Nat} (hj : j < k) : nxB S j = nxB T j := by
  rw [nx_lt (by have := A.hS; omega), nx_lt (by have := A.hT; omega), A.eq j hj]
end
end Go.Proofs.YthmfhgehahpgbaaGreatDoor
