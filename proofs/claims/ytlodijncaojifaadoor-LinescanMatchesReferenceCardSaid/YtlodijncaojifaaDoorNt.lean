/- The laws of package linescan: the lists of words, the examples. -/
import Derived.Test.YtlodijncaojifaaDoorNs
namespace Go.Proofs.YtlodijncaojifaaDoor
open Go.RowKit

def wokB (ws : List ByteArray) : Bool := ((List.range ws.length).all fun i => decide (1 ≤ (ws.getD i ByteArray.empty).size)) && (List.range ws.length).all fun i => (List.range ws.length).all fun j => decide (i = j) || !(decide ((ws.getD i ByteArray.empty).size ≤ (ws.getD j ByteArray.empty).size) && (List.range (ws.getD i ByteArray.empty).size).all fun p => decide (bt (ws.getD i ByteArray.empty) p = bt (ws.getD j ByteArray.empty) p))
theorem wok_of {ws : List ByteArray} (h : wokB ws = true) : Wok ws := by
  unfold wokB at h
  rw [Bool.and_eq_true, List.all_eq_true, List.all_eq_true] at h
  refine ⟨fun i hi => of_decide_eq_true (h.1 i (List.mem_range.2 hi)), fun i j hi hj hne hp => ?_⟩
  have h1 := List.all_eq_true.1 (h.2 i (List.mem_range.2 hi)) j (List.mem_range.2 hj)
  rw [Bool.or_eq_true, decide_eq_true_eq, Bool.not_eq_true'] at h1
  rcases h1 with h1 | h1
  · exact hne h1
  · rw [Bool.and_eq_false_iff] at h1
    rcases h1 with h1 | h1
    · exact absurd hp.1 (of_decide_eq_false h1)
    · rw [List.all_eq_false] at h1
      obtain ⟨p, hp1, hp2⟩ := h1
      exact hp2 (decide_eq_true (hp.2 p (List.mem_range.1 hp1)))
/-- What may be asked of a list of words that is given. -/
structure Wds (ws : List ByteArray) : Prop where
  ok : Wok ws
  l1 : 1 ≤ ws.length
  l2 : ws.length ≤ 1000000
  lg : lgW ws < big
  sz : ∀ i, i < ws.length → (ws.getD i ByteArray.empty).size < big
theorem wds_of {ws : List ByteArray} (h1 : wokB ws = true) (h2 : decide (1 ≤ ws.length) = true) (h3 : decide (ws.length ≤ 1000) = true) (h4 : decide (lgW ws ≤ 1000) = true) : Wds ws := by
  have a3 : ws.length ≤ 1000 := of_decide_eq_true h3
  have a4 : lgW ws ≤ 1000 := of_decide_eq_true h4
  refine ⟨wok_of h1, of_decide_eq_true h2, by omega, show lgW ws < 4611686018427387904 by omega, fun i hi => ?_⟩
  have := lgW_ge (getD_mem hi)
  show (ws.getD i ByteArray.empty).size < 4611686018427387904
  omega
def wl0 : List ByteArray := [⟨#[32]⟩]
def wl1 : List ByteArray := [⟨#[115, 101, 97, 115, 111, 110]⟩, ⟨#[102, 101, 97, 115, 116]⟩, ⟨#[101, 110, 100]⟩]
def wl2 : List ByteArray := [⟨#[102, 105, 120, 101, 100]⟩, ⟨#[101, 97, 115, 116, 101, 114]⟩, ⟨#[110, 116, 104]⟩]
def wl3 : List ByteArray := [⟨#[10]⟩]
def wl (n : Nat) : List ByteArray := if n % 4 = 0 then wl0 else if n % 4 = 1 then wl1 else if n % 4 = 2 then wl2 else wl3
theorem wds0 : Wds wl0 := wds_of (by kernel_rfl) (by kernel_rfl) (by kernel_rfl) (by kernel_rfl)
theorem wds1 : Wds wl1 := wds_of (by kernel_rfl) (by kernel_rfl) (by kernel_rfl) (by kernel_rfl)
theorem wds2 : Wds wl2 := wds_of (by kernel_rfl) (by kernel_rfl) (by kernel_rfl) (by kernel_rfl)
theorem wds3 : Wds wl3 := wds_of (by kernel_rfl) (by kernel_rfl) (by kernel_rfl) (by kernel_rfl)
theorem wds_n (n : Nat) : Wds (wl n) := by
  unfold wl
  split
  · exact wds0
  · split
    · exact wds1
    · split
      · exact wds2
      · exact wds3
/-- A slice of strings written out. -/
theorem lit1 {w : World} (a : ByteArray) (t : TypeId) : StrsIn w.heap.size 1 [a] (w.alloc (.cells #[.string a] t)) :=
  ⟨by simp, Nat.le_refl _, by decide, fun i hi => by
    have : i = 0 := by simp at hi; omega
    subst this
    rw [cell_of_row _ _ 0 _ _ _ (heap_alloc_new w _)]; rfl⟩
theorem lit2 {w : World} (a b : ByteArray) (t : TypeId) : StrsIn w.heap.size 2 [a, b] (w.alloc (.cells #[.string a, .string b] t)) :=
  ⟨by simp, Nat.le_refl _, by decide, fun i hi => by
    have : i = 0 ∨ i = 1 := by simp at hi; omega
    rcases this with rfl | rfl
    · rw [cell_of_row _ _ 0 _ _ _ (heap_alloc_new w _)]; rfl
    · rw [cell_of_row _ _ 1 _ _ _ (heap_alloc_new w _)]; rfl⟩
theorem lit3 {w : World} (a b c : ByteArray) (t : TypeId) : StrsIn w.heap.size 3 [a, b, c] (w.alloc (.cells #[.string a, .string b, .string c] t)) :=
  ⟨by simp, Nat.le_refl _, by decide, fun i hi => by
    have : i = 0 ∨ i = 1 ∨ i = 2 := by simp at hi; omega
    rcases this with rfl | rfl | rfl
    · rw [cell_of_row _ _ 0 _ _ _ (heap_alloc_new w _)]; rfl
    · rw [cell_of_row _ _ 1 _ _ _ (heap_alloc_new w _)]; rfl
    · rw [cell_of_row _ _ 2 _ _ _ (heap_alloc_new w _)]; rfl⟩
theorem wds_any (n : Nat) (hn : n ≤ 1000) (w : World) : Calls Tryd.prog 10 #[.int .i64 n] w fun e w' => e = .returned (.slice (some ⟨w.heap.size, 0, none⟩) (wl n).length (wl n).length) ∧ StrsIn w.heap.size (wl n).length (wl n) w' ∧ Below w.heap.size w w' := by
  have hm : ((n : Int)).tmod 4 = ((n % 4 : Nat) : Int) := by rw [Int.tmod_eq_emod_of_nonneg (by omega)]; omega
  unfold wl
  have : n % 4 = 0 ∨ n % 4 = 1 ∨ n % 4 = 2 ∨ n % 4 = 3 := by omega
  rcases this with h | h | h | h
  · rw [if_pos h]
    have h0 : ((n : Int)).tmod 4 = 0 := by rw [hm, h]; rfl
    go_enter Tryd.func10, Tryd.ntmps10
    go_wp2
    go_ret
    exact ⟨rfl, lit1 _ _, al1 _ _⟩
  · rw [if_neg (by omega), if_pos h]
    have h0 : ((n : Int)).tmod 4 = 1 := by rw [hm, h]; rfl
    go_enter Tryd.func10, Tryd.ntmps10
    go_wp2
    go_ret
    exact ⟨rfl, lit3 _ _ _ _, al1 _ _⟩
  · rw [if_neg (by omega), if_neg (by omega), if_pos h]
    have h0 : ((n : Int)).tmod 4 = 2 := by rw [hm, h]; rfl
    go_enter Tryd.func10, Tryd.ntmps10
    go_wp2
    go_ret
    exact ⟨rfl, lit3 _ _ _ _, al1 _ _⟩
  · rw [if_neg (by omega), if_neg (by omega), if_neg (by omega)]
    have h0 : ((n : Int)).tmod 4 = 3 := by rw [hm, h]; rfl
    go_enter Tryd.func10, Tryd.ntmps10
    go_wp2
    go_ret
    exact ⟨rfl, lit1 _ _, al1 _ _⟩
end Go.Proofs.YtlodijncaojifaaDoor
