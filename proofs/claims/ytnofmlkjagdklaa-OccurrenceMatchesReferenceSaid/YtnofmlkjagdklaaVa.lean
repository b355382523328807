/- The candidates of a day and how they are resolved, plain. No program in it. -/
import Derived.Test.YtnofmlkjagdklaaK2
import Derived.Test.YtnofmlkjagdklaaKb
import Derived.Test.YtnofmlkjagdklaaKz
namespace Go.Proofs.Ytnofmlkjagdklaa

/-! ### the candidates of a day -/
def cdT (c : Cat) (i : Nat) (day : Int) : Cd := ⟨1, i, if day % 7 = 0 then (c.ss.getD i zo).x else (c.ss.getD i zo).y, (c.ss.getD i zo).id⟩
def cdF (fs : List Itm) (k : Nat) : Cd := ⟨2, k, (fs.getD k zo).x, (fs.getD k zo).id⟩
/-- Those of the first n feasts whose day it is. -/
def cdP (fs : List Itm) (days : List Int) (day : Int) : Nat → List Cd
  | 0 => []
  | k + 1 => if days.getD k 0 = day then cdP fs days day k ++ [cdF fs k] else cdP fs days day k
def cds (c : Cat) (starts days : List Int) (day : Int) : List Cd := cdT c (snI starts day).toNat day :: cdP c.fs days day c.fs.length
def cdsOf (c : Cat) (y day : Int) : List Cd := cds c (itsD c.ss y) (itsD c.fs y) day
theorem cdP_mem {fs : List Itm} {days : List Int} {day : Int} {x : Cd} : ∀ {n : Nat}, x ∈ cdP fs days day n → ∃ k, k < n ∧ days.getD k 0 = day ∧ x = cdF fs k
  | 0, h => by cases h
  | n + 1, h => by
    unfold cdP at h
    split at h
    · rcases List.mem_append.1 h with h | h
      · obtain ⟨k, h1, h2⟩ := cdP_mem h
        exact ⟨k, by omega, h2⟩
      · rw [List.mem_singleton] at h
        exact ⟨n, by omega, by assumption, h⟩
    · obtain ⟨k, h1, h2⟩ := cdP_mem h
      exact ⟨k, by omega, h2⟩
theorem cdP_len {fs : List Itm} {days : List Int} {day : Int} : ∀ n : Nat, (cdP fs days day n).length ≤ n
  | 0 => Nat.le_refl _
  | n + 1 => by
    have := cdP_len (fs := fs) (days := days) (day := day) n
    unfold cdP
    split
    · rw [List.length_append]; simp; exact this
    · omega
theorem cdP_pw {fs : List Itm} {days : List Int} {day : Int} : ∀ n : Nat, (cdP fs days day n).Pairwise (fun a b => a.k = b.k ∧ a.i < b.i)
  | 0 => List.Pairwise.nil
  | n + 1 => by
    have := cdP_pw (fs := fs) (days := days) (day := day) n
    unfold cdP
    split
    · refine List.pairwise_append.2 ⟨this, List.pairwise_singleton _ _, fun a ha b hb => ?_⟩
      obtain ⟨k, h1, _, rfl⟩ := cdP_mem ha
      rw [List.mem_singleton] at hb
      subst hb
      exact ⟨rfl, by show (k : Int) < (n : Int); omega⟩
    · exact this
/-- Of two of them one precedes the other. -/
def Tot (l : List Cd) : Prop := l.Pairwise fun a b => prc a b = true ∨ prc b a = true
theorem prc_tot {a b : Cd} (h : a.k ≠ b.k ∨ a.i ≠ b.i) : prc a b = true ∨ prc b a = true := by
  rw [prc_iff, prc_iff]; omega
theorem cds_tot (c : Cat) (starts days : List Int) (day : Int) : Tot (cds c starts days day) := by
  refine List.pairwise_cons.2 ⟨fun b hb => prc_tot (.inl ?_), (cdP_pw _).imp fun {a b} h => prc_tot (.inr (by omega))⟩
  obtain ⟨k, _, _, rfl⟩ := cdP_mem hb
  show (1 : Int) ≠ 2
  decide
/-! ### the sorted list -/
theorem insR_perm (c : Cd) : ∀ xs : List Cd, (insR c xs).Perm (c :: xs)
  | [] => List.Perm.refl _
  | x :: xs => by
    rw [insR]; split
    · exact List.Perm.refl _
    · exact ((insR_perm c xs).cons x).trans (List.Perm.swap c x xs)
theorem srtR_perm (l : List Cd) : (srtR l).Perm l := by
  have key : ∀ (l o : List Cd), (l.foldl (fun o c => insR c o) o).Perm (l.reverse ++ o) := by
    intro l
    induction l with
    | nil => intro o; exact List.Perm.refl _
    | cons x xs ih =>
      intro o
      rw [List.foldl_cons, List.reverse_cons, List.append_assoc]
      exact (ih _).trans ((insR_perm x o).append_left _)
  have := key l []
  rw [List.append_nil] at this
  exact this.trans (List.reverse_perm l)
theorem insR_srt {c : Cd} : ∀ {xs : List Cd}, xs.Pairwise (fun a b => prc b a = false) → (insR c xs).Pairwise (fun a b => prc b a = false)
  | [], _ => by rw [insR]; exact List.pairwise_singleton _ _
  | x :: xs, h => by
    rw [List.pairwise_cons] at h
    rw [insR]
    cases g : prc c x
    · rw [if_neg (by decide), List.pairwise_cons]
      refine ⟨fun b hb => ?_, insR_srt h.2⟩
      rcases List.mem_cons.1 ((insR_perm c xs).mem_iff.1 hb) with rfl | hb
      · exact g
      · exact h.1 b hb
    · rw [if_pos rfl, List.pairwise_cons]
      refine ⟨fun b hb => ?_, List.pairwise_cons.2 h⟩
      rcases List.mem_cons.1 hb with rfl | hb
      · exact prc_asym g
      · cases e : prc b c
        · rfl
        · exact absurd (prc_ntr (h.1 b hb) (prc_asym g)) (by rw [e]; decide)
theorem srtR_srt (l : List Cd) : (srtR l).Pairwise (fun a b => prc b a = false) := by
  have key : ∀ (l o : List Cd), o.Pairwise (fun a b => prc b a = false) → (l.foldl (fun o c => insR c o) o).Pairwise (fun a b => prc b a = false) := by
    intro l
    induction l with
    | nil => intro o h; exact h
    | cons x xs ih => intro o h; exact ih _ (insR_srt h)
  exact key l [] List.Pairwise.nil
theorem Tot.perm {l l' : List Cd} (h : Tot l) (p : l.Perm l') : Tot l' := p.pairwise h (fun h => h.symm)
theorem srtR_pw {l : List Cd} (h : Tot l) : (srtR l).Pairwise (fun a b => prc a b = true) := by
  have h1 := h.perm (srtR_perm l).symm
  have h2 := srtR_srt l
  exact (h1.and h2).imp fun {a b} g => g.1.resolve_right (by rw [g.2]; decide)
/-- Whatever the order of the candidates, they are sorted alike. -/
theorem srtR_same {l l' : List Cd} (h : Tot l) (p : l.Perm l') : srtR l = srtR l' :=
  List.Perm.eq_of_pairwise (le := fun a b => prc a b = true) (fun a b _ _ h1 h2 => by rw [prc_asym h1] at h2; cases h2) (srtR_pw h) (srtR_pw (h.perm p)) (((srtR_perm l).trans p).trans (srtR_perm l').symm)
theorem rot_perm (l : List Cd) (k : Nat) : l.Perm (l.drop k ++ l.take k) := by
  have := @List.perm_append_comm _ (l.drop k) (l.take k)
  rw [List.take_append_drop] at this
  exact this.symm
/-! ### resolving -/
def polOf (c : Cat) (x : Cd) : Int := (c.fs.getD x.i.toNat zo).y
def isP (c : Cat) (p : Int) (x : Cd) : Bool := decide (x.k = 2) && decide (polOf c x = p)
def polL (c : Cat) (p : Int) (s : List Cd) : List Int := (s.filter (isP c p)).map Cd.i
theorem polL_more {c : Cat} {p : Int} {s : List Cd} {x : Cd} : polL c p (s ++ [x]) = if isP c p x = true then polL c p s ++ [x.i] else polL c p s := by
  unfold polL
  rw [List.filter_append, List.map_append]
  cases h : isP c p x
  · rw [if_neg (by decide), List.filter_cons_of_neg (by rw [h]; decide)]; simp
  · rw [if_pos rfl, List.filter_cons_of_pos h]; rfl
/-- What a list given to be resolved is: not empty, each proper one a feast of the catalogue, of two one precedes the other. -/
structure Lok (c : Cat) (l : List Cd) : Prop where
  ne : 0 < l.length
  le : l.length ≤ 40
  fs : ∀ x ∈ l, x.k = 2 → 0 ≤ x.i ∧ x.i < c.fs.length ∧ 1 ≤ polOf c x ∧ polOf c x ≤ 3
  kd : ∀ x ∈ l, x.k = 1 ∨ x.k = 2
  tot : Tot l
theorem Lok.perm {c : Cat} {l l' : List Cd} (h : Lok c l) (p : l.Perm l') : Lok c l' :=
  ⟨by rw [← p.length_eq]; exact h.ne, by rw [← p.length_eq]; exact h.le, fun x hx => h.fs x (p.mem_iff.2 hx), fun x hx => h.kd x (p.mem_iff.2 hx), h.tot.perm p⟩
theorem cds_ok {c : Cat} (hc : catB c = true) (hf : c.fs.length ≤ 39) (starts days : List Int) (day : Int) : Lok c (cds c starts days day) := by
  refine ⟨by unfold cds; simp, by have := cdP_len (fs := c.fs) (days := days) (day := day) c.fs.length; unfold cds; simp; omega, fun x hx h2 => ?_, fun x hx => ?_, cds_tot _ _ _ _⟩
  · rcases List.mem_cons.1 hx with rfl | hx
    · exact absurd (show (1 : Int) = 2 from h2) (by decide)
    · obtain ⟨k, h1, _, rfl⟩ := cdP_mem hx
      have hm : c.fs.getD k zo ∈ c.fs := by rw [List.getD_eq_getElem?_getD, List.getElem?_eq_getElem h1]; exact List.getElem_mem h1
      have hb := (cat_parts hc).2.2.1 _ hm
      refine ⟨Int.natCast_nonneg _, by show (k : Int) < (c.fs.length : Int); omega, ?_⟩
      show 1 ≤ (c.fs.getD (k : Int).toNat zo).y ∧ (c.fs.getD (k : Int).toNat zo).y ≤ 3
      rw [Int.toNat_natCast]
      generalize c.fs.getD k zo = t at *
      unfold feaB pol at hb
      simp only [Bool.and_eq_true, decide_eq_true_eq] at hb
      omega
  · rcases List.mem_cons.1 hx with rfl | hx
    · exact .inl rfl
    · obtain ⟨k, _, _, rfl⟩ := cdP_mem hx
      exact .inr rfl
end Go.Proofs.Ytnofmlkjagdklaa
