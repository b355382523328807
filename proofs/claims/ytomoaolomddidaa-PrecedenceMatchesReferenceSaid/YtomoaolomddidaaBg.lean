/- Candidates, plain: precedence; the reference's insertion; what a stable sort of places makes of a list. No program in it. -/
import Derived.Test.YtomoaolomddidaaBf
import Derived.Test.YtomoaolomddidaaBb
namespace Go.Proofs.Ytomoaolomddidaa

/-- Does a precede b? -/
def prc (a b : Cd) : Bool := decide (a.r < b.r) || (decide (a.r = b.r) && (decide (a.k < b.k) || (decide (a.k = b.k) && decide (a.i < b.i))))
theorem prc_iff {a b : Cd} : prc a b = true ↔ a.r < b.r ∨ (a.r = b.r ∧ (a.k < b.k ∨ (a.k = b.k ∧ a.i < b.i))) := by
  unfold prc; simp only [Bool.or_eq_true, Bool.and_eq_true, decide_eq_true_eq]
theorem prc_no {a b : Cd} : prc a b = false ↔ ¬ (a.r < b.r ∨ (a.r = b.r ∧ (a.k < b.k ∨ (a.k = b.k ∧ a.i < b.i)))) := by
  rw [← prc_iff]; cases prc a b <;> simp
theorem prc_asym {a b : Cd} (h : prc a b = true) : prc b a = false := by
  rw [prc_iff] at h; rw [prc_no]; omega
theorem prc_ntr {a b c : Cd} (h : prc a b = false) (g : prc b c = false) : prc a c = false := by
  rw [prc_no] at h g ⊢; omega
/-- The order of the places of a list. -/
def ltl (l : List Cd) (i j : Nat) : Bool := prc (l.getD i zcd) (l.getD j zcd)
theorem ltl_sw (l : List Cd) : SW (ltl l) := ⟨fun _ _ h => prc_asym h, fun _ _ _ h g => prc_ntr h g⟩
/-- c put ahead of the first that it precedes. -/
def insR (c : Cd) : List Cd → List Cd
  | [] => [c]
  | x :: xs => if prc c x = true then c :: x :: xs else x :: insR c xs
def srtR (l : List Cd) : List Cd := l.foldl (fun o c => insR c o) []
theorem insR_none {c : Cd} : ∀ {xs : List Cd}, xs.any (prc c) = false → insR c xs = xs ++ [c]
  | [], _ => rfl
  | x :: xs, h => by
    rw [List.any_cons, Bool.or_eq_false_iff] at h
    rw [insR, h.1, if_neg (by decide), insR_none h.2]; rfl
theorem insR_first {c y : Cd} : ∀ {xs : List Cd}, xs.any (prc c) = false → prc c y = true → insR c (xs ++ [y]) = xs ++ [c] ++ [y]
  | [], _, g => by rw [List.nil_append, insR, if_pos g]; rfl
  | x :: xs, h, g => by
    rw [List.any_cons, Bool.or_eq_false_iff] at h
    rw [List.cons_append, insR, h.1, if_neg (by decide), insR_first h.2 g]; rfl
theorem insR_any {c y : Cd} : ∀ {xs : List Cd}, xs.any (prc c) = true → insR c (xs ++ [y]) = insR c xs ++ [y]
  | [], h => by cases h
  | x :: xs, h => by
    rw [List.cons_append, insR, insR]
    cases g : prc c x
    · rw [List.any_cons, g, Bool.false_or] at h
      rw [if_neg (by decide), if_neg (by decide), insR_any h]; rfl
    · rw [if_pos rfl, if_pos rfl]; rfl
theorem insR_len (c : Cd) : ∀ xs : List Cd, (insR c xs).length = xs.length + 1
  | [] => rfl
  | x :: xs => by
    rw [insR]; split
    · rfl
    · rw [List.length_cons, insR_len c xs, List.length_cons]
theorem srtR_succ (l : List Cd) (c : Cd) : srtR (l ++ [c]) = insR c (srtR l) := by unfold srtR; rw [List.foldl_append]; rfl
/-! the same over places -/
def insI (lt : Nat → Nat → Bool) (m : Nat) : List Nat → List Nat
  | [] => [m]
  | x :: xs => if lt m x = true then m :: x :: xs else x :: insI lt m xs
section
variable {lt : Nat → Nat → Bool}
theorem insI_mem {m y : Nat} : ∀ {xs : List Nat}, y ∈ insI lt m xs ↔ y = m ∨ y ∈ xs
  | [] => by simp [insI]
  | x :: xs => by
    rw [insI]; split
    · simp
    · rw [List.mem_cons, insI_mem, List.mem_cons]
      constructor
      · rintro (h | h | h)
        · exact .inr (.inl h)
        · exact .inl h
        · exact .inr (.inr h)
      · rintro (h | h | h)
        · exact .inr (.inl h)
        · exact .inl h
        · exact .inr (.inr h)
theorem insI_pw (H : SW lt) {m : Nat} : ∀ {xs : List Nat}, (∀ x ∈ xs, x < m) → xs.Pairwise (Pr lt) → (insI lt m xs).Pairwise (Pr lt)
  | [], _, _ => by simp [insI]
  | x :: xs, hm, hp => by
    rw [List.pairwise_cons] at hp
    rw [insI]
    cases g : lt m x
    · rw [if_neg (by decide), List.pairwise_cons]
      refine ⟨fun y hy => ?_, insI_pw H (fun z hz => hm z (List.mem_cons_of_mem _ hz)) hp.2⟩
      rcases insI_mem.1 hy with rfl | h
      · exact .up (hm x List.mem_cons_self) g
      · exact hp.1 y h
    · rw [if_pos rfl, List.pairwise_cons]
      refine ⟨fun y hy => ?_, List.pairwise_cons.2 hp⟩
      rcases List.mem_cons.1 hy with rfl | h
      · exact .dn g
      · exact (Pr.dn g).trans H (hp.1 y h)
theorem insI_map {f : Nat → Cd} {m : Nat} : ∀ {xs : List Nat}, (∀ x ∈ xs, lt m x = prc (f m) (f x)) → (insI lt m xs).map f = insR (f m) (xs.map f)
  | [], _ => rfl
  | x :: xs, h => by
    rw [insI, List.map_cons, insR, ← h x List.mem_cons_self]
    split
    · rfl
    · rw [List.map_cons, insI_map (fun y hy => h y (List.mem_cons_of_mem _ hy))]
end
def srtI (lt : Nat → Nat → Bool) : Nat → List Nat
  | 0 => []
  | m + 1 => insI lt m (srtI lt m)
section
variable {lt : Nat → Nat → Bool}
theorem srtI_mem {y : Nat} : ∀ {m : Nat}, y ∈ srtI lt m ↔ y < m
  | 0 => by simp [srtI]
  | m + 1 => by rw [srtI, insI_mem, srtI_mem]; omega
theorem srtI_pw (H : SW lt) : ∀ m : Nat, (srtI lt m).Pairwise (Pr lt)
  | 0 => List.Pairwise.nil
  | m + 1 => insI_pw H (fun _ hx => srtI_mem.1 hx) (srtI_pw H m)
theorem insI_len {m : Nat} : ∀ xs : List Nat, (insI lt m xs).length = xs.length + 1
  | [] => rfl
  | x :: xs => by
    rw [insI]; split
    · rfl
    · rw [List.length_cons, insI_len xs, List.length_cons]
theorem srtI_len : ∀ m : Nat, (srtI lt m).length = m
  | 0 => rfl
  | m + 1 => by rw [srtI, insI_len, srtI_len m]
theorem srtI_lt {m i : Nat} (h : i < m) : (srtI lt m).getD i 0 < m := by
  rw [List.getD_eq_getElem?_getD, List.getElem?_eq_getElem (by rw [srtI_len]; exact h)]
  exact srtI_mem.1 (List.getElem_mem _)
theorem srtI_srt (H : SW lt) (m : Nat) : Srt lt (fun i => (srtI lt m).getD i 0) 0 m := fun i j _ h2 h3 => by
  have hl : (srtI lt m).length = m := srtI_len m
  have := (List.pairwise_iff_getElem.1 (srtI_pw H m)) i j (by omega) (by omega) h2
  simp only [List.getD_eq_getElem?_getD, List.getElem?_eq_getElem (show i < (srtI lt m).length by omega), List.getElem?_eq_getElem (show j < (srtI lt m).length by omega), Option.getD_some]
  exact this
theorem srtI_gd (H : SW lt) (m : Nat) : Gd m (fun i => (srtI lt m).getD i 0) := by
  refine ⟨fun i h => srtI_lt h, fun i j hi hj e => ?_, fun y hy => ?_⟩
  · have e' : (srtI lt m).getD i 0 = (srtI lt m).getD j 0 := e
    rcases Nat.lt_trichotomy i j with h | h | h
    · have := srtI_srt H m i j (Nat.zero_le _) h hj
      simp only [e'] at this
      exact absurd this (Pr.irr H)
    · exact h
    · have := srtI_srt H m j i (Nat.zero_le _) h hi
      simp only [e'] at this
      exact absurd this (Pr.irr H)
  · obtain ⟨i, hi, e⟩ := List.mem_iff_getElem.1 (srtI_mem.2 hy : y ∈ srtI lt m)
    refine ⟨i, by rw [srtI_len] at hi; exact hi, ?_⟩
    simp only [List.getD_eq_getElem?_getD, List.getElem?_eq_getElem hi, Option.getD_some]
    exact e
end
theorem srtR_take (l : List Cd) : ∀ m : Nat, m ≤ l.length → srtR (l.take m) = (srtI (ltl l) m).map (fun i => l.getD i zcd)
  | 0, _ => rfl
  | m + 1, h => by
    have hc : l[m]? = some (l.getD m zcd) := by rw [List.getD_eq_getElem?_getD, List.getElem?_eq_getElem (by omega)]; rfl
    rw [take_succ_cd hc, srtR_succ, srtR_take l m (by omega), srtI, insI_map (f := fun i => l.getD i zcd) (fun x _ => rfl)]
theorem srtR_len (l : List Cd) : (srtR l).length = l.length := by
  have := srtR_take l l.length (Nat.le_refl _)
  rw [List.take_length] at this
  rw [this, List.length_map, srtI_len]
/-- What a stable sort of the places leaves is what the reference makes. -/
theorem srtR_at {l : List Cd} {s : Nat → Nat} (g : Gd l.length s) (h : Srt (ltl l) s 0 l.length) {i : Nat} (hi : i < l.length) : (srtR l)[i]? = some (l.getD (s i) zcd) := by
  have e := srtR_take l l.length (Nat.le_refl _)
  rw [List.take_length] at e
  have H := ltl_sw l
  have u := srt_unique H (srtI_gd H l.length) g (srtI_srt H l.length) h i hi
  rw [e, List.getElem?_map, List.getElem?_eq_getElem (by rw [srtI_len]; exact hi)]
  simp only [List.getD_eq_getElem?_getD, List.getElem?_eq_getElem (show i < (srtI (ltl l) l.length).length by rw [srtI_len]; exact hi), Option.getD_some] at u
  rw [Option.map_some, u]
end Go.Proofs.Ytomoaolomddidaa
