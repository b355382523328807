/- Plain facts of stage 21's laws: the lists of a resolved day are in the order of precedence; how often a feast is in them. -/
import Derived.Test.YtnofmlkjagdklaaVd
namespace Go.Proofs.Ytnofmlkjagdklaa

/-- What a candidate of a day is: a season, or a feast with its own rank and index. -/
def Fst (c : Cat) (x : Cd) : Prop := x.k = 2 → x.r = (c.fs.getD x.i.toNat zo).x ∧ ∃ n : Nat, x.i = n ∧ n < c.fs.length
theorem cds_fst {c : Cat} {starts days : List Int} {day : Int} {x : Cd} (h : x ∈ cds c starts days day) : Fst c x := by
  intro h2
  rcases List.mem_cons.1 h with rfl | h
  · exact absurd (show (1 : Int) = 2 from h2) (by decide)
  · obtain ⟨k, h1, _, rfl⟩ := cdP_mem h
    exact ⟨by show _ = (c.fs.getD (k : Int).toNat zo).x; rw [Int.toNat_natCast]; rfl, k, rfl, h1⟩
theorem polL_ord {c : Cat} {p : Int} {s : List Cd} (hs : s.Pairwise (fun a b => prc a b = true)) (hf : ∀ x ∈ s, Fst c x) : OrdL c.fs (polL c p s) := by
  have hk : ∀ x ∈ s.filter (isP c p), x.k = 2 ∧ Fst c x := fun x hx => by
    obtain ⟨h1, h2⟩ := List.mem_filter.1 hx
    unfold isP at h2
    rw [Bool.and_eq_true, decide_eq_true_eq] at h2
    exact ⟨h2.1, hf x h1⟩
  have hp := hs.filter (isP c p)
  unfold polL
  generalize s.filter (isP c p) = f at *
  have hat : ∀ i (hi : i < f.length), (f.map Cd.i).getD i 0 = f[i].i := fun i hi => by rw [List.getD_eq_getElem?_getD, List.getElem?_map, List.getElem?_eq_getElem hi]; rfl
  refine ⟨fun i hi => ?_, fun i hi => ?_⟩
  · rw [List.length_map] at hi
    obtain ⟨h2, hF⟩ := hk _ (List.getElem_mem hi)
    obtain ⟨_, n, hn, hl⟩ := hF h2
    exact ⟨n, by rw [hat i hi]; exact hn, hl⟩
  · rw [List.length_map] at hi
    have hi' : i < f.length := by omega
    obtain ⟨a2, aF⟩ := hk _ (List.getElem_mem hi')
    obtain ⟨b2, bF⟩ := hk _ (List.getElem_mem hi)
    have hpr := (List.pairwise_iff_getElem.1 hp) i (i + 1) hi' hi (by omega)
    rw [hat i hi', hat (i + 1) hi, ← (aF a2).1, ← (bF b2).1]
    rw [prc_iff] at hpr
    omega
end Go.Proofs.Ytnofmlkjagdklaa
