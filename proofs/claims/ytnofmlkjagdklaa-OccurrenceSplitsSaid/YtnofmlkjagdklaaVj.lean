/- Plain facts of the law Splits of stage 21: the sorted list's first against the others; how often a feast is in the lists; how long these are. No program in it. -/
import Derived.Test.YtnofmlkjagdklaaVf
namespace Go.Proofs.Ytnofmlkjagdklaa

theorem prc_irr (a : Cd) : prc a a = false := by rw [prc_no]; omega
theorem prc_ne {a b : Cd} (h : prc a b = true) : ¬ (a.k = b.k ∧ a.i = b.i ∧ a.r = b.r) := by
  rw [prc_iff] at h; omega
/-- Do two candidates have the same kind, index and rank? -/
def eqK (a b : Cd) : Bool := decide (a.k = b.k ∧ a.i = b.i ∧ a.r = b.r)
section
variable {l rest : List Cd} {x : Cd} (hs : srtR l = x :: rest)
include hs
theorem spl_prc : ∀ z ∈ l, prc z x = false := fun z hz => by
  have h := srtR_srt l
  rw [hs, List.pairwise_cons] at h
  have hm := (srtR_perm l).mem_iff.2 hz
  rw [hs] at hm
  rcases List.mem_cons.1 hm with rfl | hm
  · exact prc_irr _
  · exact h.1 z hm
theorem spl_rest (ht : Tot l) : ∀ z ∈ rest, prc x z = true := fun z hz => by
  have h := srtR_pw ht
  rw [hs, List.pairwise_cons] at h
  exact h.1 z hz
theorem spl_or : ∀ z ∈ l, z = x ∨ z ∈ rest := fun z hz => by
  have hm := (srtR_perm l).mem_iff.2 hz
  rw [hs] at hm
  exact List.mem_cons.1 hm
theorem spl_mem : ∀ z ∈ rest, z ∈ l := fun z hz => (srtR_perm l).mem_iff.1 (by rw [hs]; exact List.mem_cons_of_mem _ hz)
theorem spl_fst : x ∈ l := (srtR_perm l).mem_iff.1 (by rw [hs]; exact List.mem_cons_self)
theorem spl_eq (ht : Tot l) : ∀ z ∈ l, eqK z x = true → z = x := fun z hz he => by
  rcases spl_or hs z hz with h | h
  · exact h
  · have := prc_ne (spl_rest hs ht z h)
    unfold eqK at he
    rw [decide_eq_true_eq] at he
    omega
theorem spl_count (ht : Tot l) : l.countP (fun z => eqK z x) = 1 := by
  rw [← (srtR_perm l).countP_eq, hs, List.countP_cons, List.countP_eq_zero.2, if_pos (by unfold eqK; rw [decide_eq_true_eq]; exact ⟨rfl, rfl, rfl⟩)]
  intro z hz he
  unfold eqK at he
  rw [decide_eq_true_eq] at he
  have := prc_ne (spl_rest hs ht z hz)
  omega
end
theorem pol_mem {c : Cat} {p : Int} {s : List Cd} {j : Int} : j ∈ polL c p s ↔ ∃ z ∈ s, z.k = 2 ∧ polOf c z = p ∧ z.i = j := by
  unfold polL isP
  rw [List.mem_map]
  constructor
  · rintro ⟨z, hz, rfl⟩
    obtain ⟨h1, h2⟩ := List.mem_filter.1 hz
    rw [Bool.and_eq_true, decide_eq_true_eq, decide_eq_true_eq] at h2
    exact ⟨z, h1, h2.1, h2.2, rfl⟩
  · rintro ⟨z, h1, h2, h3, rfl⟩
    exact ⟨z, List.mem_filter.2 ⟨h1, by rw [Bool.and_eq_true, decide_eq_true_eq, decide_eq_true_eq]; exact ⟨h2, h3⟩⟩, rfl⟩
/-- Two feasts of which one precedes the other have different indexes. -/
theorem fst_ne {c : Cat} {a b : Cd} (h : prc a b = true) (ha : Fst c a) (hb : Fst c b) (ka : a.k = 2) (kb : b.k = 2) : a.i ≠ b.i := fun e => by
  have e1 := (ha ka).1
  have e2 := (hb kb).1
  rw [e] at e1
  exact prc_ne h ⟨ka.trans kb.symm, e, e1.trans e2.symm⟩
theorem pol_nodup {c : Cat} {p : Int} {s : List Cd} (hp : s.Pairwise (fun a b => prc a b = true)) (hf : ∀ z ∈ s, Fst c z) : (polL c p s).Nodup := by
  unfold polL
  rw [List.Nodup, List.pairwise_map]
  have hk : ∀ z ∈ s.filter (isP c p), z.k = 2 ∧ Fst c z := fun z hz => by
    obtain ⟨h1, h2⟩ := List.mem_filter.1 hz
    unfold isP at h2
    rw [Bool.and_eq_true, decide_eq_true_eq] at h2
    exact ⟨h2.1, hf z h1⟩
  exact (hp.filter _).imp_of_mem fun {a b} ha hb h => fst_ne h (hk a ha).2 (hk b hb).2 (hk a ha).1 (hk b hb).1
section
variable {c : Cat} {l rest : List Cd} {x : Cd} (hs : srtR l = x :: rest) (ht : Tot l) (hf : ∀ z ∈ l, Fst c z)
include hs ht hf
theorem spl_zero (hx : x.k = 2) (p : Int) : (polL c p rest).count x.i = 0 := by
  rw [List.count_eq_zero, pol_mem]
  rintro ⟨z, hz, h2, _, e⟩
  exact fst_ne (spl_rest hs ht z hz) (hf x (spl_fst hs)) (hf z (spl_mem hs z hz)) hx h2 e.symm
theorem spl_one {z : Cd} (hz : z ∈ rest) (h2 : z.k = 2) (p : Int) : (polL c p rest).count z.i = if polOf c z = p then 1 else 0 := by
  have hpw := srtR_pw ht
  rw [hs, List.pairwise_cons] at hpw
  have hfr : ∀ z ∈ rest, Fst c z := fun z hz => hf z (spl_mem hs z hz)
  rw [(pol_nodup hpw.2 hfr).count]
  by_cases e : polOf c z = p
  · rw [if_pos e, if_pos (pol_mem.2 ⟨z, hz, h2, e, rfl⟩)]
  · rw [if_neg e, if_neg]
    intro hm
    obtain ⟨q, hq, q2, qp, qi⟩ := pol_mem.1 hm
    refine e ?_
    rw [← qp]
    unfold polOf
    rw [qi]
end
def ctP (s : List Cd) : Nat := s.countP fun z => decide (z.k = 2)
theorem pol_sum {c : Cat} : ∀ s : List Cd, (∀ z ∈ s, z.k = 2 → 1 ≤ polOf c z ∧ polOf c z ≤ 3) → (polL c 2 s).length + (polL c 3 s).length + (polL c 1 s).length = ctP s
  | [], _ => rfl
  | z :: s, h => by
    have ih := pol_sum s fun q hq => h q (List.mem_cons_of_mem _ hq)
    have h2 := h z List.mem_cons_self
    have e : ∀ p, (polL c p (z :: s)).length = (polL c p s).length + if isP c p z = true then 1 else 0 := fun p => by
      unfold polL
      rw [List.filter_cons]
      split <;> simp_all
    rw [e, e, e]
    unfold ctP at ih ⊢
    rw [List.countP_cons]
    unfold isP
    by_cases hk : z.k = 2
    · have := h2 hk
      simp only [hk, decide_true, Bool.true_and, decide_eq_true_eq, if_true]
      have : polOf c z = 1 ∨ polOf c z = 2 ∨ polOf c z = 3 := by omega
      rcases this with e | e | e <;> rw [e] <;> simp <;> omega
    · simp only [hk, decide_false, Bool.false_and]
      simp
      omega
theorem spl_len {c : Cat} {starts days : List Int} {day : Int} {x : Cd} {rest : List Cd} (hs : srtR (cds c starts days day) = x :: rest) : ctP rest + (if x.k = 2 then 1 else 0) + 1 = (cds c starts days day).length := by
  have h1 : ctP (cds c starts days day) + 1 = (cds c starts days day).length := by
    unfold ctP cds
    rw [List.countP_cons, List.length_cons]
    have e : (cdP c.fs days day c.fs.length).countP (fun z => decide (z.k = 2)) = (cdP c.fs days day c.fs.length).length := by
      rw [List.countP_eq_length]
      intro z hz
      obtain ⟨k, _, _, rfl⟩ := cdP_mem hz
      rfl
    rw [e]
    rfl
  have h2 : ctP (cds c starts days day) = ctP (x :: rest) := by
    unfold ctP
    rw [← (srtR_perm (cds c starts days day)).countP_eq, hs]
  have h3 : ctP (x :: rest) = ctP rest + if x.k = 2 then 1 else 0 := by
    unfold ctP
    rw [List.countP_cons]
    congr 1
    by_cases e : x.k = 2
    · rw [if_pos (decide_eq_true e), if_pos e]
    · rw [if_neg (by rw [decide_eq_false e]; decide), if_neg e]
  omega
end Go.Proofs.Ytnofmlkjagdklaa
