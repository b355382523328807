/- Transfers, plain: the earliest later free day, the moves of impeded feasts, what is left; each free day between a feast's own day and its new one has been taken before; more free days or fewer feasts find days as well; how many free days remain. -/
import Derived.Test.YtaifhikhdcnacaaKa
namespace Go.Proofs.Ytaifhikhdcnacaa

/-- The first free day from a day on; the number of days (or the day, if it is greater) if there is none. -/
def nxF (L : List Bool) (t : Nat) : Nat := t + (L.drop t).findIdx id
theorem nxF_ge (L : List Bool) (t : Nat) : t ≤ nxF L t := Nat.le_add_right _ _
theorem nxF_no {L : List Bool} {t i : Nat} (h1 : t ≤ i) (h2 : i < nxF L t) : L.getD i false = false := by
  have h : i - t < (L.drop t).findIdx id := by unfold nxF at h2; omega
  have hl := Nat.lt_of_lt_of_le h List.findIdx_le_length
  have := List.not_of_lt_findIdx h
  rw [List.getElem_drop] at this
  have e : t + (i - t) = i := by omega
  simp only [e] at this
  rw [List.length_drop] at hl
  rw [List.getD_eq_getElem?_getD, List.getElem?_eq_getElem (by omega)]
  simpa using this
theorem nxF_yes {L : List Bool} {t : Nat} (h : nxF L t < L.length) : L.getD (nxF L t) false = true := by
  have hl : (L.drop t).findIdx id < (L.drop t).length := by rw [List.length_drop]; unfold nxF at h; omega
  have := List.findIdx_getElem (w := hl)
  rw [List.getElem_drop] at this
  rw [List.getD_eq_getElem?_getD, List.getElem?_eq_getElem h]
  exact this
theorem nxF_eq {L : List Bool} {t k : Nat} (h1 : t ≤ k) (h2 : k < L.length) (h3 : L.getD k false = true) (h4 : ∀ i, t ≤ i → i < k → L.getD i false = false) : nxF L t = k := by
  rcases Nat.lt_trichotomy (nxF L t) k with h | h | h
  · have := nxF_yes (L := L) (t := t) (by omega)
    rw [h4 _ (nxF_ge L t) h] at this; cases this
  · exact h
  · rw [nxF_no h1 h] at h3; cases h3
theorem nxF_out {L : List Bool} {t : Nat} (h4 : ∀ i, t ≤ i → i < L.length → L.getD i false = false) : ¬ nxF L t < L.length := fun h => by
  have := nxF_yes h
  rw [h4 _ (nxF_ge L t) h] at this; cases this

/-- A move: the feast, its own day, its new day. -/
abbrev Mv := Int × Int × Int
/-- One feast more: what is left free, and the moves so far. -/
def stpF (s : List Bool × List Mv) (j : Nat × Int) : Option (List Bool × List Mv) :=
  if nxF s.1 (j.1 + 1) < s.1.length then some (s.1.set (nxF s.1 (j.1 + 1)) false, s.2 ++ [(j.2, (j.1 : Int), (nxF s.1 (j.1 + 1) : Int))]) else none
def runF (L : List Bool) (js : List (Nat × Int)) : Option (List Bool × List Mv) := js.foldlM stpF (L, [])
theorem runF_snoc (L : List Bool) (js : List (Nat × Int)) (j : Nat × Int) : runF L (js ++ [j]) = (runF L js).bind fun s => stpF s j := by
  unfold runF
  rw [List.foldlM_append]
  cases js.foldlM stpF (L, []) with
  | none => rfl
  | some s => simp [List.foldlM]
theorem runF_none {L : List Bool} {js : List (Nat × Int)} (h : runF L js = none) (more : List (Nat × Int)) : runF L (js ++ more) = none := by
  unfold runF at *
  rw [List.foldlM_append, h]; rfl
/-- The impeded feasts of the days ahead of a day, in the order in which they are transferred. -/
def jobsF (imp : List (List Int)) (day : Nat) : List (Nat × Int) := (List.range day).flatMap fun d => (imp.getD d []).map fun f => (d, f)
def dayF (imp : List (List Int)) (day k : Nat) : List (Nat × Int) := ((imp.getD day []).take k).map fun f => (day, f)
theorem jobsF_succ (imp : List (List Int)) (day : Nat) : jobsF imp (day + 1) = jobsF imp day ++ dayF imp day (imp.getD day []).length := by
  unfold jobsF dayF
  rw [List.range_succ, List.flatMap_append, List.take_length]; simp
theorem dayF_succ {imp : List (List Int)} {day k : Nat} {f : Int} (h : (imp.getD day [])[k]? = some f) : dayF imp day (k + 1) = dayF imp day k ++ [(day, f)] := by
  unfold dayF
  rw [List.take_add_one, h, List.map_append]; rfl
theorem dayF_all (imp : List (List Int)) (day : Nat) : ∃ more : Nat → List (Nat × Int), ∀ k, k ≤ (imp.getD day []).length → dayF imp day (imp.getD day []).length = dayF imp day k ++ more k := by
  refine ⟨fun k => ((imp.getD day []).drop k).map fun f => (day, f), fun k _ => ?_⟩
  unfold dayF
  rw [List.take_length, ← List.map_append, List.take_append_drop]
theorem jobsF_le (imp : List (List Int)) {a b : Nat} (h : a ≤ b) : ∃ more, jobsF imp b = jobsF imp a ++ more := by
  induction b with
  | zero => exact ⟨[], by rw [show a = 0 by omega]; simp⟩
  | succ b ih =>
    by_cases g : a ≤ b
    · obtain ⟨m, hm⟩ := ih g
      exact ⟨m ++ dayF imp b (imp.getD b []).length, by rw [jobsF_succ, hm, List.append_assoc]⟩
    · exact ⟨[], by rw [show a = b + 1 by omega]; simp⟩
/-- The feast at a place of a day cannot be transferred: so Assign fails. -/
theorem run_stop {L : List Bool} {imp : List (List Int)} {day k : Nat} (hd : day < imp.length) (hk : k + 1 ≤ (imp.getD day []).length) (h : runF L (jobsF imp day ++ dayF imp day (k + 1)) = none) : runF L (jobsF imp imp.length) = none := by
  obtain ⟨m1, e1⟩ := dayF_all imp day
  obtain ⟨m2, e2⟩ := jobsF_le imp (show day + 1 ≤ imp.length by omega)
  rw [e2, jobsF_succ, e1 (k + 1) hk, ← List.append_assoc, List.append_assoc]
  exact runF_none h _
/-- What Assign answers: the error, the moves. -/
def asE (fr : List Bool) (imp : List (List Int)) : Int := if fr.length ≠ imp.length then 3 else match runF fr (jobsF imp imp.length) with | some _ => 0 | none => 5
def asM (fr : List Bool) (imp : List (List Int)) : List Mv := if fr.length ≠ imp.length then [] else match runF fr (jobsF imp imp.length) with | some s => s.2 | none => []
theorem as_far {fr : List Bool} {imp : List (List Int)} (h : fr.length ≠ imp.length) : asE fr imp = 3 ∧ asM fr imp = [] := by unfold asE asM; rw [if_pos h, if_pos h]; exact ⟨rfl, rfl⟩
theorem as_no {fr : List Bool} {imp : List (List Int)} (h : fr.length = imp.length) (hr : runF fr (jobsF imp imp.length) = none) : asE fr imp = 5 ∧ asM fr imp = [] := by
  unfold asE asM; rw [if_neg (fun g => g h), if_neg (fun g => g h), hr]; exact ⟨rfl, rfl⟩
theorem as_yes {fr L : List Bool} {imp : List (List Int)} {ms : List Mv} (h : fr.length = imp.length) (hr : runF fr (jobsF imp imp.length) = some (L, ms)) : asE fr imp = 0 ∧ asM fr imp = ms := by
  unfold asE asM; rw [if_neg (fun g => g h), if_neg (fun g => g h), hr]; exact ⟨rfl, rfl⟩
theorem as_cases (fr : List Bool) (imp : List (List Int)) : (asE fr imp = 0 ∧ fr.length = imp.length ∧ ∃ L, runF fr (jobsF imp imp.length) = some (L, asM fr imp)) ∨ (asE fr imp = 3 ∧ asM fr imp = [] ∧ fr.length ≠ imp.length) ∨ (asE fr imp = 5 ∧ asM fr imp = [] ∧ fr.length = imp.length ∧ runF fr (jobsF imp imp.length) = none) := by
  by_cases h : fr.length = imp.length
  · cases hr : runF fr (jobsF imp imp.length) with
    | none => exact .inr (.inr ⟨(as_no h hr).1, (as_no h hr).2, h, rfl⟩)
    | some s =>
      obtain ⟨L, ms⟩ := s
      have := as_yes h hr
      exact .inl ⟨this.1, h, L, by rw [this.2]⟩
  · exact .inr (.inl ⟨(as_far h).1, (as_far h).2, h⟩)

/-! what the moves are -/
/-- Is a day taken by one of the moves? -/
def tkn (ms : List Mv) (t : Nat) : Bool := ms.any fun m => decide (m.2.2 = (t : Int))
theorem tkn_iff {ms : List Mv} {t : Nat} : tkn ms t = true ↔ ∃ m ∈ ms, m.2.2 = (t : Int) := by
  unfold tkn; rw [List.any_eq_true]
  exact ⟨fun ⟨m, h, e⟩ => ⟨m, h, of_decide_eq_true e⟩, fun ⟨m, h, e⟩ => ⟨m, h, decide_eq_true e⟩⟩
theorem tkn_snoc (ms : List Mv) (m : Mv) (t : Nat) : tkn (ms ++ [m]) t = (tkn ms t || decide (m.2.2 = (t : Int))) := by unfold tkn; rw [List.any_append]; simp
theorem getD_set (L : List Bool) (i j : Nat) (b : Bool) (hi : i < L.length) : (L.set i b).getD j false = if j = i then b else L.getD j false := by
  rw [List.getD_eq_getElem?_getD, List.getD_eq_getElem?_getD, List.getElem?_set]
  by_cases h : j = i
  · subst h; rw [if_pos rfl, if_pos rfl, if_pos hi]; rfl
  · rw [if_neg (fun e => h e.symm), if_neg h]
/-- The invariant of transferring. -/
structure InvF (fr L : List Bool) (js : List (Nat × Int)) (ms : List Mv) : Prop where
  len : L.length = fr.length
  left : ∀ t, L.getD t false = (fr.getD t false && !tkn ms t)
  n : ms.length = js.length
  one : ∀ (i : Nat) (m : Mv), ms[i]? = some m → ∃ (d t : Nat), js[i]? = some (d, m.1) ∧ m.2.1 = d ∧ m.2.2 = t ∧ d < t ∧ t < fr.length ∧ fr.getD t false = true ∧ tkn (ms.take i) t = false ∧ ∀ s, d < s → s < t → fr.getD s false = true → tkn (ms.take i) s = true
theorem inv_nil (fr : List Bool) : InvF fr fr [] [] := ⟨rfl, fun t => by simp [tkn], rfl, fun i m h => by simp at h⟩
theorem inv_step {fr L : List Bool} {js : List (Nat × Int)} {ms : List Mv} (h : InvF fr L js ms) {d : Nat} {f : Int} {L' : List Bool} {ms' : List Mv} (hs : stpF (L, ms) (d, f) = some (L', ms')) : InvF fr L' (js ++ [(d, f)]) ms' := by
  unfold stpF at hs
  split at hs
  · rename_i hlt
    simp only [Option.some.injEq, Prod.mk.injEq] at hs
    obtain ⟨rfl, rfl⟩ := hs
    have hy := nxF_yes hlt
    have hl := h.left (nxF L (d + 1))
    rw [hy] at hl
    have hfree : fr.getD (nxF L (d + 1)) false = true ∧ tkn ms (nxF L (d + 1)) = false := by
      cases e1 : fr.getD (nxF L (d + 1)) false <;> cases e2 : tkn ms (nxF L (d + 1)) <;> rw [e1, e2] at hl <;> first | exact ⟨rfl, rfl⟩ | exact absurd hl (by decide)
    refine ⟨by simpa using h.len, fun t => ?_, by simp [h.n], fun i m hm => ?_⟩
    · show (L.set (nxF L (d + 1)) false).getD t false = _
      rw [getD_set _ _ _ _ hlt, tkn_snoc]
      by_cases e : t = nxF L (d + 1)
      · rw [if_pos e, decide_eq_true (show ((f, (d : Int), ((nxF L (d + 1) : Nat) : Int)) : Mv).2.2 = (t : Int) from by rw [e])]; cases fr.getD t false <;> cases tkn ms t <;> rfl
      · rw [if_neg e, decide_eq_false (show ¬ ((f, (d : Int), ((nxF L (d + 1) : Nat) : Int)) : Mv).2.2 = (t : Int) from fun g => e (by dsimp only at g; omega)), h.left t]; cases fr.getD t false <;> cases tkn ms t <;> rfl
    · rcases Nat.lt_trichotomy i ms.length with g | g | g
      · rw [List.getElem?_append_left g] at hm
        obtain ⟨d', t, q1, q2, q3, q4, q5, q6, q7, q8⟩ := h.one i m hm
        have e : (ms ++ [(f, (d : Int), ((nxF L (d + 1) : Nat) : Int))]).take i = ms.take i := List.take_append_of_le_length (by omega)
        refine ⟨d', t, ?_, q2, q3, q4, q5, q6, by rw [e]; exact q7, by rw [e]; exact q8⟩
        rw [List.getElem?_append_left (by rw [← h.n]; exact g)]; exact q1
      · subst g
        rw [List.getElem?_append_right (Nat.le_refl _), Nat.sub_self] at hm
        obtain rfl : (f, (d : Int), ((nxF L (d + 1) : Nat) : Int)) = m := by simpa using hm
        have e : (ms ++ [(f, (d : Int), ((nxF L (d + 1) : Nat) : Int))]).take ms.length = ms := List.take_left
        refine ⟨d, nxF L (d + 1), ?_, rfl, rfl, by have := nxF_ge L (d + 1); omega, by rw [← h.len]; exact hlt, hfree.1, by rw [e]; exact hfree.2, fun s s1 s2 s3 => ?_⟩
        · rw [h.n, List.getElem?_append_right (Nat.le_refl _), Nat.sub_self]; rfl
        · rw [e]
          have := nxF_no (L := L) (t := d + 1) (i := s) (by omega) s2
          rw [h.left s, s3] at this
          simpa using this
      · have : (ms ++ [(f, (d : Int), ((nxF L (d + 1) : Nat) : Int))]).length ≤ i := by simp; omega
        rw [List.getElem?_eq_none this] at hm; cases hm
  · cases hs
theorem run_inv (fr : List Bool) : ∀ (n : Nat) (js : List (Nat × Int)), js.length = n → ∀ L ms, runF fr js = some (L, ms) → InvF fr L js ms
  | 0, js, hn, L, ms, h => by
    obtain rfl := List.eq_nil_of_length_eq_zero hn
    simp [runF] at h
    obtain ⟨rfl, rfl⟩ := h
    exact inv_nil fr
  | n + 1, js, hn, L, ms, h => by
    have hne : js ≠ [] := by intro e; rw [e] at hn; cases hn
    obtain ⟨js', j, rfl⟩ : ∃ js' j, js = js' ++ [j] := ⟨js.dropLast, js.getLast hne, (List.dropLast_concat_getLast hne).symm⟩
    rw [runF_snoc] at h
    cases hr : runF fr js' with
    | none => rw [hr] at h; cases h
    | some s =>
      obtain ⟨L1, m1⟩ := s
      rw [hr] at h
      obtain ⟨d, f⟩ := j
      exact inv_step (run_inv fr n js' (by simpa using hn) L1 m1 hr) h

/-! more free days, fewer feasts -/
/-- What is free in the one is free in the other. -/
def subF (L L' : List Bool) : Prop := L.length = L'.length ∧ ∀ t, L.getD t false = true → L'.getD t false = true
theorem sub_step {L L' : List Bool} {ms ms' : List Mv} {j : Nat × Int} (h : subF L L') {s : List Bool × List Mv} (hs : stpF (L, ms) j = some s) : ∃ s', stpF (L', ms') j = some s' ∧ subF s.1 s'.1 := by
  unfold stpF at *
  split at hs
  · rename_i hlt
    simp only [Option.some.injEq] at hs
    subst hs
    dsimp only at hlt ⊢
    have hy := nxF_yes hlt
    have hle : nxF L' (j.1 + 1) ≤ nxF L (j.1 + 1) := by
      rcases Nat.lt_or_ge (nxF L (j.1 + 1)) (nxF L' (j.1 + 1)) with g | g
      · have := nxF_no (nxF_ge L (j.1 + 1)) g
        rw [h.2 _ hy] at this; cases this
      · exact g
    have hlt' : nxF L' (j.1 + 1) < L'.length := by rw [← h.1]; omega
    refine ⟨_, if_pos hlt', by simpa using h.1, fun t ht => ?_⟩
    dsimp only at ht ⊢
    rw [getD_set _ _ _ _ hlt] at ht
    rw [getD_set _ _ _ _ hlt']
    split at ht
    · cases ht
    · rename_i hne
      rw [if_neg]
      · exact h.2 t ht
      · intro e
        rcases Nat.lt_or_ge t (nxF L (j.1 + 1)) with g | g
        · rw [nxF_no (by rw [e]; exact nxF_ge _ _) g] at ht; cases ht
        · omega
  · cases hs
theorem sub_skip {L L' : List Bool} {ms : List Mv} {j : Nat × Int} (h : subF L L') {s : List Bool × List Mv} (hs : stpF (L, ms) j = some s) : subF s.1 L' := by
  unfold stpF at hs
  split at hs
  · rename_i hlt
    simp only [Option.some.injEq] at hs
    subst hs
    refine ⟨by simpa using h.1, fun t ht => ?_⟩
    dsimp only at ht
    rw [getD_set _ _ _ _ hlt] at ht
    split at ht
    · cases ht
    · exact h.2 t ht
  · cases hs
theorem sub_run {js : List (Nat × Int)} : ∀ {L L' : List Bool} {ms ms' : List Mv}, subF L L' → ∀ {s}, js.foldlM stpF (L, ms) = some s → ∃ s', js.foldlM stpF (L', ms') = some s' ∧ subF s.1 s'.1 := by
  induction js with
  | nil => intro L L' ms ms' h s hs; simp at hs; subst hs; exact ⟨_, rfl, h⟩
  | cons j js ih =>
    intro L L' ms ms' h s hs
    rw [List.foldlM_cons] at hs
    cases h1 : stpF (L, ms) j with
    | none => rw [h1] at hs; cases hs
    | some s1 =>
      rw [h1] at hs
      obtain ⟨s1', e1, h2⟩ := sub_step (ms' := ms') h h1
      obtain ⟨s', e2, h3⟩ := ih (ms := s1.2) (ms' := s1'.2) h2 hs
      exact ⟨s', by rw [List.foldlM_cons, e1]; exact e2, h3⟩
theorem sub_drop {js : List (Nat × Int)} : ∀ {L L' : List Bool} {ms : List Mv}, subF L L' → ∀ {s}, js.foldlM stpF (L, ms) = some s → subF s.1 L' := by
  induction js with
  | nil => intro L L' ms h s hs; simp at hs; subst hs; exact h
  | cons j js ih =>
    intro L L' ms h s hs
    rw [List.foldlM_cons] at hs
    cases h1 : stpF (L, ms) j with
    | none => rw [h1] at hs; cases hs
    | some s1 =>
      rw [h1] at hs
      exact ih (ms := s1.2) (sub_skip h h1) hs
theorem more_free {fr fr' : List Bool} {imp : List (List Int)} (h : subF fr fr') (h0 : asE fr imp = 0) : asE fr' imp = 0 := by
  rcases as_cases fr imp with ⟨_, hl, L, hr⟩ | ⟨e, _⟩ | ⟨e, _⟩
  · obtain ⟨s', e, _⟩ := sub_run (ms' := []) h hr
    exact (as_yes (L := s'.1) (ms := s'.2) (by rw [← h.1]; exact hl) e).1
  · rw [e] at h0; cases h0
  · rw [e] at h0; cases h0
theorem jobs_set {imp : List (List Int)} {k : Nat} (hk : k < imp.length) : jobsF imp imp.length = jobsF imp k ++ (dayF imp k (imp.getD k []).length ++ ((List.range' (k + 1) (imp.length - (k + 1))).flatMap fun d => (imp.getD d []).map fun f => (d, f))) := by
  unfold jobsF dayF
  rw [List.take_length]
  have e : List.range imp.length = List.range k ++ (k :: List.range' (k + 1) (imp.length - (k + 1))) := by
    obtain ⟨m, hm⟩ : ∃ m, imp.length - (k + 1) = m := ⟨_, rfl⟩
    rw [hm, show imp.length = k + (m + 1) by omega, List.range_eq_range', List.range_eq_range', ← List.range'_succ, ← List.range'_append_1]
    simp
  rw [e, List.flatMap_append]; rfl
theorem fewer_jobs {fr : List Bool} {imp : List (List Int)} {k : Nat} (hk : k < imp.length) (h0 : asE fr imp = 0) : asE fr (imp.set k []) = 0 := by
  rcases as_cases fr imp with ⟨_, hl, L, hr⟩ | ⟨e, _⟩ | ⟨e, _⟩
  · have hk' : k < (imp.set k []).length := by simpa using hk
    have hd : ∀ d, d ≠ k → (imp.set k []).getD d [] = imp.getD d [] := fun d h => by
      rw [List.getD_eq_getElem?_getD, List.getD_eq_getElem?_getD, List.getElem?_set, if_neg (fun e => h e.symm)]
    have hd0 : (imp.set k []).getD k [] = [] := by rw [List.getD_eq_getElem?_getD, List.getElem?_set, if_pos rfl, if_pos hk]; rfl
    have e1 : jobsF (imp.set k []) k = jobsF imp k := by
      unfold jobsF
      rw [List.flatMap_def, List.flatMap_def]
      congr 1
      exact List.map_congr_left fun d hdm => by rw [hd d (by have := List.mem_range.1 hdm; omega)]
    have e2 : ((List.range' (k + 1) ((imp.set k []).length - (k + 1))).flatMap fun d => ((imp.set k []).getD d []).map fun f => (d, f)) = ((List.range' (k + 1) (imp.length - (k + 1))).flatMap fun d => (imp.getD d []).map fun f => (d, f)) := by
      rw [List.length_set, List.flatMap_def, List.flatMap_def]
      congr 1
      exact List.map_congr_left fun d hdm => by rw [hd d (by have := List.mem_range'_1.1 hdm; omega)]
    have hj := jobs_set hk'
    rw [e1, e2, show dayF (imp.set k []) k ((imp.set k []).getD k []).length = [] by unfold dayF; rw [hd0]; rfl, List.nil_append] at hj
    rw [jobs_set hk] at hr
    unfold runF at hr
    rw [List.foldlM_append] at hr
    cases ha : (jobsF imp k).foldlM stpF (fr, []) with
    | none => rw [ha] at hr; cases hr
    | some s1 =>
      rw [ha] at hr
      change (List.foldlM stpF s1 _) = _ at hr
      rw [List.foldlM_append] at hr
      cases hb : (dayF imp k (imp.getD k []).length).foldlM stpF s1 with
      | none => rw [hb] at hr; cases hr
      | some s2 =>
        rw [hb] at hr
        obtain ⟨s', e', _⟩ := sub_run (L := s2.1) (ms := s2.2) (L' := s1.1) (ms' := s1.2) (sub_drop (L := s1.1) (ms := s1.2) ⟨rfl, fun t h => h⟩ hb) hr
        refine (as_yes (L := s'.1) (ms := s'.2) (by simpa using hl) ?_).1
        rw [hj]
        unfold runF
        rw [List.foldlM_append, ha]
        exact e'
  · rw [e] at h0; cases h0
  · rw [e] at h0; cases h0
/-! what the laws ask besides -/
/-- A window of at most 400 days, with at most 100 impeded feasts a day and 400 in all. -/
def sumF (imp : List (List Int)) (n : Nat) : Nat := ((imp.take n).map List.length).sum
theorem sumF_succ {imp : List (List Int)} {n : Nat} (h : n < imp.length) : sumF imp (n + 1) = sumF imp n + (imp.getD n []).length := by
  unfold sumF
  rw [List.take_add_one, List.getElem?_eq_getElem h, List.map_append, List.sum_append, List.getD_eq_getElem?_getD, List.getElem?_eq_getElem h]; simp
theorem sumF_mono {imp : List (List Int)} {a b : Nat} (h : a ≤ b) (hb : b ≤ imp.length) : sumF imp a ≤ sumF imp b := by
  induction b with
  | zero => rw [show a = 0 by omega]; exact Nat.le_refl _
  | succ b ih =>
    by_cases g : a ≤ b
    · rw [sumF_succ (show b < imp.length by omega)]
      have := ih g (by omega)
      omega
    · rw [show a = b + 1 by omega]; exact Nat.le_refl _
def fewT (fr : List Bool) (imp : List (List Int)) : Bool := decide (fr.length ≤ 400) && (decide (imp.length ≤ 400) && (imp.all (fun l => decide (l.length ≤ 100)) && decide (sumF imp imp.length ≤ 400)))
theorem fewT_iff {fr : List Bool} {imp : List (List Int)} : fewT fr imp = true ↔ fr.length ≤ 400 ∧ imp.length ≤ 400 ∧ (∀ l ∈ imp, l.length ≤ 100) ∧ sumF imp imp.length ≤ 400 := by
  unfold fewT; simp [Bool.and_eq_true, List.all_eq_true]
theorem jobs_len (imp : List (List Int)) : ∀ n, n ≤ imp.length → (jobsF imp n).length = sumF imp n
  | 0, _ => rfl
  | n + 1, h => by rw [jobsF_succ, List.length_append, jobs_len imp n (by omega), sumF_succ (by omega)]; simp [dayF]
/-- The feast at a place of a day, among all. -/
theorem jobs_at {imp : List (List Int)} {day i : Nat} {f : Int} (hd : day < imp.length) (hi : (imp.getD day [])[i]? = some f) : (jobsF imp imp.length)[sumF imp day + i]? = some (day, f) := by
  have hil := (List.getElem?_eq_some_iff.1 hi).1
  obtain ⟨m2, e2⟩ := jobsF_le imp (show day + 1 ≤ imp.length by omega)
  rw [e2, jobsF_succ, ← jobs_len imp day (by omega), List.append_assoc, List.getElem?_append_right (Nat.le_add_right _ _), Nat.add_sub_cancel_left, List.getElem?_append_left (by simpa [dayF] using hil)]
  unfold dayF
  rw [List.take_length, List.getElem?_map, hi]; rfl
/-- The first of the moves to a day. -/
def tkV (ms : List Mv) (day : Int) : Mv × Bool := match ms.find? (fun m => decide (m.2.2 = day)) with | some m => (m, true) | none => ((0, 0, 0), false)
theorem tkV_at {ms : List Mv} {day : Int} {k : Nat} {m : Mv} (h : ms[k]? = some m) (hm : m.2.2 = day) (hno : ∀ (j : Nat) (u : Mv), j < k → ms[j]? = some u → u.2.2 ≠ day) : tkV ms day = (m, true) := by
  have hk := (List.getElem?_eq_some_iff.1 h).1
  have e : ms.find? (fun m => decide (m.2.2 = day)) = some m := by
    rw [List.find?_eq_some_iff_getElem]
    refine ⟨decide_eq_true hm, k, hk, (List.getElem?_eq_some_iff.1 h).2, fun j hj => ?_⟩
    have := hno j _ hj (List.getElem?_eq_getElem (by omega))
    simpa using this
  unfold tkV; rw [e]
theorem tkV_no {ms : List Mv} {day : Int} (hno : ∀ (j : Nat) (u : Mv), ms[j]? = some u → u.2.2 ≠ day) : tkV ms day = ((0, 0, 0), false) := by
  have e : ms.find? (fun m => decide (m.2.2 = day)) = none := by
    rw [List.find?_eq_none]
    intro x hx
    obtain ⟨i, hi⟩ := List.getElem?_of_mem hx
    simpa using hno i x hi
  unfold tkV; rw [e]
/-- One more than the last of the first n days with an impeded feast; 0 if there is none. -/
def lstF (imp : List (List Int)) : Nat → Nat
  | 0 => 0
  | n + 1 => if (imp.getD n []).length = 0 then lstF imp n else n + 1
theorem lstF_le (imp : List (List Int)) : ∀ n, lstF imp n ≤ n
  | 0 => Nat.le_refl _
  | n + 1 => by unfold lstF; split; exact Nat.le_succ_of_le (lstF_le imp n); exact Nat.le_refl _
/-- How many days from a on, before b, are free and not taken. -/
def cntF (fr : List Bool) (ms : List Mv) (a b : Nat) : Nat := ((List.range' a (b - a)).filter fun i => fr.getD i false && !tkn ms i).length
theorem cntF_self (fr : List Bool) (ms : List Mv) (a : Nat) : cntF fr ms a a = 0 := by unfold cntF; rw [Nat.sub_self]; rfl
theorem cntF_succ (fr : List Bool) (ms : List Mv) {a b : Nat} (h : a ≤ b) : cntF fr ms a (b + 1) = cntF fr ms a b + (if fr.getD b false = true ∧ tkn ms b = false then 1 else 0) := by
  unfold cntF
  rw [show b + 1 - a = (b - a) + 1 by omega, List.range'_concat, List.filter_append, List.length_append, show a + 1 * (b - a) = b by omega]
  congr 1
  by_cases g : fr.getD b false = true ∧ tkn ms b = false
  · rw [if_pos g, List.filter_cons_of_pos (by rw [g.1, g.2]; rfl)]; rfl
  · rw [if_neg g, List.filter_cons_of_neg]
    · rfl
    · intro e
      simp only [Bool.and_eq_true, Bool.not_eq_true'] at e
      exact g e
def roomF (fr : List Bool) (imp : List (List Int)) : Nat := if asE fr imp = 0 then cntF fr (asM fr imp) (lstF imp imp.length) fr.length else 0
/-- How many of the first k moves are to a day. -/
def hits (ms : List Mv) (t : Int) (k : Nat) : Nat := ((ms.take k).filter fun m => decide (m.2.2 = t)).length
theorem hits_zero (ms : List Mv) (t : Int) : hits ms t 0 = 0 := rfl
theorem hits_succ {ms : List Mv} {t : Int} {k : Nat} {m : Mv} (h : ms[k]? = some m) : hits ms t (k + 1) = hits ms t k + (if m.2.2 = t then 1 else 0) := by
  unfold hits
  rw [List.take_add_one, h, List.filter_append, List.length_append]
  congr 1
  by_cases g : m.2.2 = t
  · rw [if_pos g]; simp [g]
  · rw [if_neg g]; simp [g]
/-- The moves to a day are as many as it is taken: one or none. -/
theorem hits_tkn {fr L : List Bool} {js : List (Nat × Int)} {ms : List Mv} (h : InvF fr L js ms) (t : Nat) : ∀ k, k ≤ ms.length → hits ms t k = if tkn (ms.take k) t = true then 1 else 0
  | 0, _ => by rw [hits_zero]; simp [tkn]
  | k + 1, hk => by
    obtain ⟨m, hm⟩ : ∃ m, ms[k]? = some m := ⟨_, List.getElem?_eq_getElem (by omega)⟩
    obtain ⟨d, t', q1, q2, q3, q4, q5, q6, q7, q8⟩ := h.one k m hm
    have e : ms.take (k + 1) = ms.take k ++ [m] := by rw [List.take_add_one, hm]; rfl
    rw [hits_succ hm, hits_tkn h t k (by omega), e, tkn_snoc]
    by_cases g : m.2.2 = (t : Int)
    · have : t' = t := by rw [q3] at g; exact Int.ofNat.inj g
      subst this
      rw [q7, if_pos g, decide_eq_true g]; rfl
    · rw [if_neg g, decide_eq_false g]; simp
theorem hits_free {fr L : List Bool} {js : List (Nat × Int)} {ms : List Mv} (h : InvF fr L js ms) {t : Nat} (ht : tkn ms t = true) : fr.getD t false = true := by
  obtain ⟨m, hm, e⟩ := tkn_iff.1 ht
  obtain ⟨i, hi⟩ := List.getElem?_of_mem hm
  obtain ⟨d, t', q1, q2, q3, q4, q5, q6, q7, q8⟩ := h.one i m hi
  have : t' = t := by rw [q3] at e; exact Int.ofNat.inj e
  subst this
  exact q6
/-- Of the moves that Assign makes: the invariant. -/
theorem as_inv {fr : List Bool} {imp : List (List Int)} (h : asE fr imp = 0) : fr.length = imp.length ∧ ∃ L, InvF fr L (jobsF imp imp.length) (asM fr imp) := by
  rcases as_cases fr imp with ⟨_, hl, L, hr⟩ | ⟨e, _⟩ | ⟨e, _⟩
  · exact ⟨hl, L, run_inv fr _ _ rfl L _ hr⟩
  · rw [e] at h; cases h
  · rw [e] at h; cases h
end Go.Proofs.Ytaifhikhdcnacaa
