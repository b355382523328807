/- What earlier stages proved: Nt Nu Nv Nw. -/
import Derived.Test.YtkhicgafhbecfaaGreatDoorM4
import Derived.Laws.IdiomStrings
namespace Go.Proofs.YtkhicgafhbecfaaGreatDoor
open Go.RowKit

def wokB (ws : List ByteArray) : Bool := ((List.range ws.length).all fun i => decide (1 ≤ (ws.getD i ByteArray.empty).size)) && (List.range ws.length).all fun i => (List.range ws.length).all fun j => decide (i = j) || !(decide ((ws.getD i ByteArray.empty).size ≤ (ws.getD j ByteArray.empty).size) && (List.range (ws.getD i ByteArray.empty).size).all fun p => decide (bt (ws.getD i ByteArray.empty) p = bt (ws.getD j ByteArray.empty) p))
theorem wok_of {ws : List ByteArray} (h : wokB ws = true) : Wok ws := by
  unfold wokB at h
  rw [Bool.and_eq_true, List.all_eq_true, List.all_eq_true] at h
  refine ⟨fun i hi => of_decide_eq_true (h.1 i (List.mem_range.2 hi)), fun i j hi hj hne hp => ?_⟩
  have h1 := List.all_eq_true.1 (h.2 i (List.mem_range.2 hi)) j (List.mem_range.2 hj)
  rw [Bool.or_eq_true, decide_eq_true_eq, Bool.not_eq_true'] at h1
  rcases h1 with h1 | h1
  · exact hne h1
  · rw [Bool.and_eq_false_iff] at h1
    rcases h1 with h1 | h1
    · exact absurd hp.1 (of_decide_eq_false h1)
    · rw [List.all_eq_false] at h1
      obtain ⟨p, hp1, hp2⟩ := h1
      exact hp2 (decide_eq_true (hp.2 p (List.mem_range.1 hp1)))
/-- What may be asked of a list of words that is given. -/
structure Wds (ws : List ByteArray) : Prop where
  ok : Wok ws
  l1 : 1 ≤ ws.length
  l2 : ws.length ≤ 1000000
  lg : lgW ws < big
  sz : ∀ i, i < ws.length → (ws.getD i ByteArray.empty).size < big
theorem wds_of {ws : List ByteArray} (h1 : wokB ws = true) (h2 : decide (1 ≤ ws.length) = true) (h3 : decide (ws.length ≤ 1000) = true) (h4 : decide (lgW ws ≤ 1000) = true) : Wds ws := by
  have a3 : ws.length ≤ 1000 := of_decide_eq_true h3
  have a4 : lgW ws ≤ 1000 := of_decide_eq_true h4
  refine ⟨wok_of h1, of_decide_eq_true h2, by omega, show lgW ws < 4611686018427387904 by omega, fun i hi => ?_⟩
  have := lgW_ge (getD_mem hi)
  show (ws.getD i ByteArray.empty).size < 4611686018427387904
  omega
def wl0 : List ByteArray := [⟨#[32]⟩]
def wl1 : List ByteArray := [⟨#[115, 101, 97, 115, 111, 110]⟩, ⟨#[102, 101, 97, 115, 116]⟩, ⟨#[101, 110, 100]⟩]
def wl2 : List ByteArray := [⟨#[102, 105, 120, 101, 100]⟩, ⟨#[101, 97, 115, 116, 101, 114]⟩, ⟨#[110, 116, 104]⟩]
def wl3 : List ByteArray := [⟨#[10]⟩]
def wl (n : Nat) : List ByteArray := if n % 4 = 0 then wl0 else if n % 4 = 1 then wl1 else if n % 4 = 2 then wl2 else wl3
theorem wds0 : Wds wl0 := wds_of (by kernel_rfl) (by kernel_rfl) (by kernel_rfl) (by kernel_rfl)
theorem wds1 : Wds wl1 := wds_of (by kernel_rfl) (by kernel_rfl) (by kernel_rfl) (by kernel_rfl)
theorem wds2 : Wds wl2 := wds_of (by kernel_rfl) (by kernel_rfl) (by kernel_rfl) (by kernel_rfl)
theorem wds3 : Wds wl3 := wds_of (by kernel_rfl) (by kernel_rfl) (by kernel_rfl) (by kernel_rfl)
theorem wds_n (n : Nat) : Wds (wl n) := by
  unfold wl
  split
  · exact wds0
  · split
    · exact wds1
    · split
      · exact wds2
      · exact wds3
/-- A slice of strings written out. -/
theorem lit1 {w : World} (a : ByteArray) (t : TypeId) : StrsIn w.heap.size 1 [a] (w.alloc (.cells #[.string a] t)) :=
  ⟨by simp, Nat.le_refl _, by decide, fun i hi => by
    have : i = 0 := by simp at hi; omega
    subst this
    rw [cell_of_row _ _ 0 _ _ _ (heap_alloc_new w _)]; rfl⟩
theorem lit2 {w : World} (a b : ByteArray) (t : TypeId) : StrsIn w.heap.size 2 [a, b] (w.alloc (.cells #[.string a, .string b] t)) :=
  ⟨by simp, Nat.le_refl _, by decide, fun i hi => by
    have : i = 0 ∨ i = 1 := by simp at hi; omega
    rcases this with rfl | rfl
    · rw [cell_of_row _ _ 0 _ _ _ (heap_alloc_new w _)]; rfl
    · rw [cell_of_row _ _ 1 _ _ _ (heap_alloc_new w _)]; rfl⟩
theorem lit3 {w : World} (a b c : ByteArray) (t : TypeId) : StrsIn w.heap.size 3 [a, b, c] (w.alloc (.cells #[.string a, .string b, .string c] t)) :=
  ⟨by simp, Nat.le_refl _, by decide, fun i hi => by
    have : i = 0 ∨ i = 1 ∨ i = 2 := by simp at hi; omega
    rcases this with rfl | rfl | rfl
    · rw [cell_of_row _ _ 0 _ _ _ (heap_alloc_new w _)]; rfl
    · rw [cell_of_row _ _ 1 _ _ _ (heap_alloc_new w _)]; rfl
    · rw [cell_of_row _ _ 2 _ _ _ (heap_alloc_new w _)]; rfl⟩
end Go.Proofs.YtkhicgafhbecfaaGreatDoor

namespace Go.Proofs.YtkhicgafhbecfaaGreatDoor
open Go.RowKit

/-- Two scanners in memory. -/
structure Aw (W : World) (b1 b2 : Nat) (S1 : ByteArray) (k1 : Nat) (f1 : Bool) (S2 : ByteArray) (k2 : Nat) (f2 : Bool) (u : World) : Prop where
  r1 : u.heap[b1]? = some (scO S1 k1 f1)
  r2 : u.heap[b2]? = some (scO S2 k2 f2)
  bl : Below W.heap.size W u
theorem Aw.on {W : World} {b1 b2 k1 k2 : Nat} {S1 S2 : ByteArray} {f1 f2 : Bool} {u u' : World} (h : Aw W b1 b2 S1 k1 f1 S2 k2 f2 u) (hb : Below u.heap.size u u') : Aw W b1 b2 S1 k1 f1 S2 k2 f2 u' :=
  ⟨row_kept h.r1 hb, row_kept h.r2 hb, below_on h.bl hb⟩
theorem Bt.bel {W u u' : World} {b : Nat} (h : Below W.heap.size W u) (hb : Bt b u u') (hn : W.heap.size ≤ b) : Below W.heap.size W u' := h.trans (hb.below hn h.size)
theorem Aw.one {W : World} {b1 b2 k1 k2 k1' : Nat} {S1 S2 : ByteArray} {f1 f2 f1' : Bool} {u u' : World} (h : Aw W b1 b2 S1 k1 f1 S2 k2 f2 u) (hr : u'.heap[b1]? = some (scO S1 k1' f1')) (hb : Bt b1 u u') (h1 : W.heap.size ≤ b1) (h2 : b1 < b2) : Aw W b1 b2 S1 k1' f1' S2 k2 f2 u' :=
  ⟨hr, hb.row (by omega) h.r2, hb.bel h.bl h1⟩
theorem Aw.two {W : World} {b1 b2 k1 k2 k2' : Nat} {S1 S2 : ByteArray} {f1 f2 f2' : Bool} {u u' : World} (h : Aw W b1 b2 S1 k1 f1 S2 k2 f2 u) (hr : u'.heap[b2]? = some (scO S2 k2' f2')) (hb : Bt b2 u u') (h1 : W.heap.size ≤ b1) (h2 : b1 < b2) : Aw W b1 b2 S1 k1 f1 S2 k2' f2' u' :=
  ⟨hb.row (by omega) h.r1, hr, hb.bel h.bl (by omega)⟩
def aS1 : ByteArray := ⟨#[102, 105, 120, 101, 100, 32, 49, 50]⟩
def aS2 : ByteArray := ⟨#[102, 101, 120]⟩
def aWs : List ByteArray := [⟨#[102, 101, 97, 115, 116]⟩, ⟨#[102, 105, 120, 101, 100]⟩]
theorem aWds : Wds aWs := wds_of (by kernel_rfl) (by kernel_rfl) (by kernel_rfl) (by kernel_rfl)
theorem aF1 : wdF aS1 0 aWs = some 1 ∧ wdK aS1 0 aWs = 5 ∧ wdF aS1 5 wl0 = some 0 ∧ wdK aS1 5 wl0 = 6 ∧ nuB aS1 6 = false ∧ nuK aS1 6 = 8 ∧ nuV aS1 6 = 12 ∧ wdF aS2 0 aWs = none ∧ wdK aS2 0 aWs = 2 :=
  ⟨by kernel_rfl, by kernel_rfl, by kernel_rfl, by kernel_rfl, by kernel_rfl, by kernel_rfl, by kernel_rfl, by kernel_rfl, by kernel_rfl⟩
end Go.Proofs.YtkhicgafhbecfaaGreatDoor

namespace Go.Proofs.YtkhicgafhbecfaaGreatDoor
open Go.RowKit

/-- The decimal text of a natural number. -/
structure DecOk (n : Nat) (D : ByteArray) : Prop where
  l1 : 1 ≤ D.size
  l2 : D.size ≤ 10
  dgt : ∀ j, j < D.size → dg D (0 + j) = true
  val : vl D 0 D.size = (n : Int)
  ld : D.size = 1 ∨ 49 ≤ bt D 0
  low : D.size = 1 ∨ pw (D.size - 1) ≤ (n : Int)
def dgS : ByteArray := ⟨#[48, 49, 50, 51, 52, 53, 54, 55, 56, 57]⟩
theorem dgS_all : ((List.range 10).all fun r => decide (bt dgS r = 48 + (r : Int))) = true := by kernel_rfl
theorem dgS_at {r : Nat} (h : r < 10) : bt dgS r = 48 + (r : Int) := of_decide_eq_true (List.all_eq_true.1 dgS_all r (List.mem_range.2 h))
theorem dg1 {r : Nat} (h : r < 10) : (dgS.extract r (r + 1)).size = 1 ∧ bt (dgS.extract r (r + 1)) 0 = 48 + (r : Int) := by
  have hs : dgS.size = 10 := rfl
  exact ⟨by rw [ext_size (by omega) (by omega)]; omega, by rw [bt_ext (by omega), Nat.add_zero]; exact dgS_at h⟩
theorem vl_pre {D E : ByteArray} {i : Nat} : ∀ {m : Nat}, (∀ j, j < m → bt D (i + j) = bt E (i + j)) → vl D i m = vl E i m := by
  intro m
  induction m with
  | zero => intro _; rfl
  | succ m ih => intro h; rw [vl_succ, vl_succ, ih (fun j hj => h j (by omega)), h m (by omega)]
theorem dec_one {n : Nat} (h : n < 10) : DecOk n (dgS.extract n (n + 1)) := by
  obtain ⟨a, b⟩ := dg1 h
  have d0 : dg (dgS.extract n (n + 1)) 0 = true := dg_iff.2 ⟨by omega, by rw [b]; omega, by rw [b]; omega⟩
  refine ⟨by omega, by omega, fun j hj => by rw [show 0 + j = 0 by omega]; exact d0, ?_, .inl a, .inl a⟩
  rw [a]
  show 10 * 0 + (bt (dgS.extract n (n + 1)) (0 + 0) - 48) = _
  rw [b]; omega
theorem dec_more {n : Nat} {D : ByteArray} (hn : 10 ≤ n) (h9 : n < 10000000000) (h : DecOk (n / 10) D) : DecOk n (D ++ dgS.extract (n % 10) (n % 10 + 1)) := by
  obtain ⟨a, b⟩ := dg1 (show n % 10 < 10 by omega)
  have hs : (D ++ dgS.extract (n % 10) (n % 10 + 1)).size = D.size + 1 := by rw [ByteArray.size_append, a]
  have old : ∀ j, j < D.size → bt (D ++ dgS.extract (n % 10) (n % 10 + 1)) j = bt D j := fun j hj => by rw [bt_app, if_pos hj]
  have new : bt (D ++ dgS.extract (n % 10) (n % 10 + 1)) D.size = 48 + ((n % 10 : Nat) : Int) := by rw [bt_app, if_neg (by omega), Nat.sub_self, b]
  have hl := h.l1
  have low' : pw D.size ≤ (n : Int) := by
    rcases h.low with e | e
    · rw [e]; show 10 * 1 ≤ (n : Int); omega
    · have : pw D.size = 10 * pw (D.size - 1) := by
        have e2 : D.size = D.size - 1 + 1 := by omega
        rw [e2]; rfl
      omega
  have l2' : D.size + 1 ≤ 10 := by
    refine Classical.byContradiction fun c => ?_
    have h1 := pw_mono (show 10 ≤ D.size by omega)
    have h2 : pw 10 = 10000000000 := rfl
    omega
  refine ⟨by omega, by omega, fun j hj => ?_, ?_, .inr ?_, .inr ?_⟩
  · rw [hs] at hj
    rw [Nat.zero_add]
    by_cases q : j < D.size
    · have := dg_iff.1 (h.dgt j q)
      rw [Nat.zero_add] at this
      exact dg_iff.2 ⟨by omega, by rw [old j q]; exact this.2.1, by rw [old j q]; exact this.2.2⟩
    · rw [show j = D.size by omega]
      exact dg_iff.2 ⟨by omega, by rw [new]; omega, by rw [new]; omega⟩
  · rw [hs, vl_succ, Nat.zero_add, new, vl_pre (E := D) (fun j hj => by rw [Nat.zero_add]; exact old j hj), h.val]
    omega
  · rw [old 0 (by omega)]
    rcases h.ld with e | e
    · have hv := h.val
      rw [e] at hv
      have : vl D 0 1 = 10 * 0 + (bt D (0 + 0) - 48) := rfl
      rw [this, Nat.add_zero] at hv
      omega
    · exact e
  · rw [hs, Nat.add_sub_cancel]; exact low'
theorem strU (a b : ByteArray) (h : a.size + b.size ≤ 100) (u : World) : (Op.stringOp .add a b).run Tryz.prog u = .ok (.string (a ++ b)) u := by
  rw [run_string_add_if, if_neg (by omega)]
end Go.Proofs.YtkhicgafhbecfaaGreatDoor

namespace Go.Proofs.YtkhicgafhbecfaaGreatDoor
open Go.RowKit

def bigN (k : Int) (m8 : UInt8) : Prop := (48 ≤ (m8.toNat : Int) ∧ (m8.toNat : Int) ≤ 57) ∧ k ≠ 0 ∧ -1000000000 < k ∧ k < 1000000000
/-- What a number's text and one byte more are scanned as. -/
structure NumR (k : Int) (s : ByteArray) (m8 : UInt8) : Prop where
  l1 : s.size ≤ 11
  nb : nuB (s ++ ⟨#[m8]⟩) 0 = false
  yes : bigN k m8 → nuK (s ++ ⟨#[m8]⟩) 0 = s.size + 1 ∧ nuV (s ++ ⟨#[m8]⟩) 0 ≠ k
  no : ¬ bigN k m8 → nuK (s ++ ⟨#[m8]⟩) 0 = s.size ∧ nuV (s ++ ⟨#[m8]⟩) 0 = k
theorem app_size (s : ByteArray) (m8 : UInt8) : (s ++ (⟨#[m8]⟩ : ByteArray)).size = s.size + 1 := by rw [ByteArray.size_append]; rfl
theorem app_last (s : ByteArray) (m8 : UInt8) : bt (s ++ ⟨#[m8]⟩) s.size = (m8.toNat : Int) := by rw [bt_app, if_neg (by omega), Nat.sub_self]; rfl
theorem app_old {s : ByteArray} {m8 : UInt8} {j : Nat} (h : j < s.size) : bt (s ++ ⟨#[m8]⟩) j = bt s j := by rw [bt_app, if_pos h]
theorem nx_last (s : ByteArray) (m8 : UInt8) : nxB (s ++ ⟨#[m8]⟩) s.size = (m8.toNat : Int) := by rw [nx_lt (by rw [app_size]; omega), app_last]
theorem num_tail {T : ByteArray} {i m : Nat} {more : Int} (hs : T.size = i + m + 1) (hd : ∀ j, j < m → dg T (i + j) = true) (hm : bt T (i + m) = more) (m2 : m ≤ 10) :
    ((48 ≤ more ∧ more ≤ 57) ∧ m ≤ 9 → dgs T i 10 = m + 1 ∧ vl T i (m + 1) = 10 * vl T i m + (more - 48)) ∧ (¬ (48 ≤ more ∧ more ≤ 57) ∨ m = 10 → dgs T i 10 = m) := by
  constructor
  · rintro ⟨⟨a, b⟩, c⟩
    refine ⟨dgs_eq (by omega) (fun j hj => ?_) ?_, by rw [vl_succ, hm]⟩
    · by_cases q : j < m
      · exact hd j q
      · rw [show j = m by omega]; exact dg_iff.2 ⟨by omega, by omega, by omega⟩
    · right; exact dg_no fun h => by have := h.1; omega
  · intro h
    refine dgs_eq m2 hd ?_
    rcases h with h | h
    · right; exact dg_no fun g => h ⟨by rw [← hm]; exact g.2.1, by rw [← hm]; exact g.2.2⟩
    · left; exact h
theorem dec_lead {n : Nat} {D : ByteArray} (h : DecOk n D) (h1 : 1 ≤ n) : 49 ≤ bt D 0 := by
  rcases h.ld with e | e
  · have hv := h.val
    rw [e] at hv
    have : vl D 0 1 = 10 * 0 + (bt D (0 + 0) - 48) := rfl
    rw [this, Nat.add_zero] at hv
    omega
  · exact e
theorem dec_nine {n : Nat} {D : ByteArray} (h : DecOk n D) : (n < 1000000000 → D.size ≤ 9) ∧ (1000000000 ≤ n → D.size = 10) := by
  have l2 := h.l2
  constructor
  · intro hn
    refine Classical.byContradiction fun c => ?_
    have e : D.size = 10 := by omega
    rcases h.low with q | q
    · omega
    · rw [e] at q
      have : pw (10 - 1) = 1000000000 := rfl
      omega
  · intro hn
    refine Classical.byContradiction fun c => ?_
    have h1 := (vl_bd h.dgt).2
    rw [h.val] at h1
    have h2 := pw_mono (show D.size ≤ 9 by omega)
    have h3 : pw 9 = 1000000000 := rfl
    omega
theorem dec_zero {D : ByteArray} (h : DecOk 0 D) : D.size = 1 ∧ bt D 0 = 48 := by
  have l1 := h.l1
  have e : D.size = 1 := by
    rcases h.low with q | q
    · exact q
    · have := pw_mono (show 0 ≤ D.size - 1 by omega)
      have h3 : pw 0 = 1 := rfl
      omega
  have hv := h.val
  rw [e] at hv
  have : vl D 0 1 = 10 * 0 + (bt D (0 + 0) - 48) := rfl
  rw [this, Nat.add_zero] at hv
  exact ⟨e, by omega⟩
theorem num_pos {n : Nat} {D : ByteArray} (h : DecOk n D) (m8 : UInt8) : NumR (n : Int) D m8 := by
  have l1 := h.l1
  have l2 := h.l2
  have b0 : bt (D ++ ⟨#[m8]⟩) 0 = bt D 0 := app_old (by omega)
  have ts := app_size D m8
  by_cases h0 : n = 0
  · subst h0
    obtain ⟨z1, z2⟩ := dec_zero h
    have hz : nuZ (D ++ ⟨#[m8]⟩) 0 = true := by unfold nuZ; rw [b0, z2, ts]; simp
    obtain ⟨v1, v2, v3⟩ := nu_z hz
    exact ⟨by omega, v2, fun c => absurd rfl c.2.1, fun _ => ⟨by rw [v1]; omega, v3⟩⟩
  · have hl := dec_lead h (by omega)
    have bd := bt_bd D 0
    have d57 : bt D 0 ≤ 57 := by have := (dg_iff.1 (h.dgt 0 (by omega))).2.2; exact this
    have hz : nuZ (D ++ ⟨#[m8]⟩) 0 = false := by unfold nuZ; rw [b0, dfalse (show ¬ bt D 0 = 48 by omega), Bool.and_false]
    have hn : nuN (D ++ ⟨#[m8]⟩) 0 = false := by unfold nuN; rw [b0, dfalse (show ¬ bt D 0 = 45 by omega), Bool.and_false]
    have eI : nuI (D ++ ⟨#[m8]⟩) 0 = 0 := (nuN_no hn).2
    have hd : nuD (D ++ ⟨#[m8]⟩) 0 = true := by
      unfold nuD
      rw [eI, dg_iff.2 ⟨by omega, by rw [b0]; omega, by rw [b0]; omega⟩, b0, dfalse (show ¬ bt D 0 = 48 by omega)]
      rfl
    obtain ⟨v1, v2, v3⟩ := nu_d hz hd
    rw [eI, hn] at v3
    rw [eI] at v1
    have hdt : ∀ j, j < D.size → dg (D ++ ⟨#[m8]⟩) (0 + j) = true := fun j hj => by
      have := dg_iff.1 (h.dgt j hj)
      rw [Nat.zero_add] at this ⊢
      exact dg_iff.2 ⟨by omega, by rw [app_old hj]; exact this.2.1, by rw [app_old hj]; exact this.2.2⟩
    have hv : vl (D ++ ⟨#[m8]⟩) 0 D.size = (n : Int) := by rw [← h.val]; exact vl_pre fun j hj => by rw [Nat.zero_add]; exact app_old hj
    obtain ⟨t1, t2⟩ := num_tail (T := D ++ ⟨#[m8]⟩) (i := 0) (m := D.size) (more := (m8.toNat : Int)) (by omega) hdt (by rw [Nat.zero_add]; exact app_last D m8) l2
    obtain ⟨n1, n2⟩ := dec_nine h
    refine ⟨by omega, v2, fun c => ?_, fun c => ?_⟩
    · obtain ⟨c1, c2, c3, c4⟩ := c
      obtain ⟨e1, e2⟩ := t1 ⟨c1, n1 (by omega)⟩
      rw [v1, v3, e1]
      refine ⟨by omega, ?_⟩
      show vl (D ++ ⟨#[m8]⟩) 0 (D.size + 1) ≠ (n : Int)
      rw [e2, hv]; omega
    · have e1 := t2 (by
        by_cases c1 : 48 ≤ (m8.toNat : Int) ∧ (m8.toNat : Int) ≤ 57
        · right; exact n2 (Classical.byContradiction fun g => c ⟨c1, by omega, by omega, by omega⟩)
        · left; exact c1)
      rw [v1, v3, e1]
      exact ⟨by omega, hv⟩
theorem num_neg {n : Nat} {D : ByteArray} (h : DecOk n D) (h1 : 1 ≤ n) (m8 : UInt8) : NumR (-(n : Int)) (⟨#[45]⟩ ++ D) m8 := by
  have l1 := h.l1
  have l2 := h.l2
  have ss : ((⟨#[45]⟩ : ByteArray) ++ D).size = D.size + 1 := by rw [ByteArray.size_append]; show 1 + D.size = _; omega
  have ts : ((⟨#[45]⟩ ++ D) ++ (⟨#[m8]⟩ : ByteArray)).size = D.size + 2 := by rw [app_size, ss]
  have s0 : bt ((⟨#[45]⟩ : ByteArray) ++ D) 0 = 45 := by rw [bt_app, if_pos (by show 0 < 1; omega)]; rfl
  have sj : ∀ j, bt ((⟨#[45]⟩ : ByteArray) ++ D) (1 + j) = bt D j := fun j => by rw [bt_app, if_neg (by show ¬ 1 + j < 1; omega)]; show bt D (1 + j - 1) = _; rw [Nat.add_sub_cancel_left]
  have b0 : bt ((⟨#[45]⟩ ++ D) ++ ⟨#[m8]⟩) 0 = 45 := by rw [app_old (by omega), s0]
  have bj : ∀ j, j < D.size → bt ((⟨#[45]⟩ ++ D) ++ ⟨#[m8]⟩) (1 + j) = bt D j := fun j hj => by rw [app_old (by omega), sj]
  have hl := dec_lead h h1
  have d57 : bt D 0 ≤ 57 := by have := (dg_iff.1 (h.dgt 0 (by omega))).2.2; exact this
  have b1 : bt ((⟨#[45]⟩ ++ D) ++ ⟨#[m8]⟩) 1 = bt D 0 := bj 0 (by omega)
  have hz : nuZ ((⟨#[45]⟩ ++ D) ++ ⟨#[m8]⟩) 0 = false := by unfold nuZ; rw [b0, dfalse (show ¬ (45 : Int) = 48 by omega), Bool.and_false]
  have hn : nuN ((⟨#[45]⟩ ++ D) ++ ⟨#[m8]⟩) 0 = true := by unfold nuN; rw [b0, ts, dtrue (show 0 < D.size + 2 by omega), dtrue (show (45 : Int) = 45 from rfl)]; rfl
  have eI : nuI ((⟨#[45]⟩ ++ D) ++ ⟨#[m8]⟩) 0 = 1 := (nuN_yes hn).2.2
  have hd : nuD ((⟨#[45]⟩ ++ D) ++ ⟨#[m8]⟩) 0 = true := by
    unfold nuD
    rw [eI, dg_iff.2 ⟨by omega, by rw [b1]; omega, by rw [b1]; omega⟩, b1, dfalse (show ¬ bt D 0 = 48 by omega)]
    rfl
  obtain ⟨v1, v2, v3⟩ := nu_d hz hd
  rw [eI, hn] at v3
  rw [eI] at v1
  have hdt : ∀ j, j < D.size → dg ((⟨#[45]⟩ ++ D) ++ ⟨#[m8]⟩) (1 + j) = true := fun j hj => by
    have := dg_iff.1 (h.dgt j hj)
    rw [Nat.zero_add] at this
    exact dg_iff.2 ⟨by omega, by rw [bj j hj]; exact this.2.1, by rw [bj j hj]; exact this.2.2⟩
  have hv : vl ((⟨#[45]⟩ ++ D) ++ ⟨#[m8]⟩) 1 D.size = (n : Int) := by
    rw [← h.val]
    have : ∀ m, m ≤ D.size → vl ((⟨#[45]⟩ ++ D) ++ ⟨#[m8]⟩) 1 m = vl D 0 m := by
      intro m
      induction m with
      | zero => intro _; rfl
      | succ m ih => intro hm; rw [vl_succ, vl_succ, ih (by omega), bj m (by omega), Nat.zero_add]
    exact this _ (Nat.le_refl _)
  obtain ⟨t1, t2⟩ := num_tail (T := (⟨#[45]⟩ ++ D) ++ ⟨#[m8]⟩) (i := 1) (m := D.size) (more := (m8.toNat : Int)) (by omega) hdt (by rw [show 1 + D.size = ((⟨#[45]⟩ : ByteArray) ++ D).size by omega]; exact app_last _ m8) l2
  obtain ⟨n1, n2⟩ := dec_nine h
  refine ⟨by omega, v2, fun c => ?_, fun c => ?_⟩
  · obtain ⟨c1, c2, c3, c4⟩ := c
    obtain ⟨e1, e2⟩ := t1 ⟨c1, n1 (by omega)⟩
    rw [v1, v3, e1]
    refine ⟨by omega, ?_⟩
    show - vl ((⟨#[45]⟩ ++ D) ++ ⟨#[m8]⟩) 1 (D.size + 1) ≠ -(n : Int)
    rw [e2, hv]; omega
  · have e1 := t2 (by
      by_cases c1 : 48 ≤ (m8.toNat : Int) ∧ (m8.toNat : Int) ≤ 57
      · right; exact n2 (Classical.byContradiction fun g => c ⟨c1, by omega, by omega, by omega⟩)
      · left; exact c1)
    rw [v1, v3, e1]
    refine ⟨by omega, ?_⟩
    show - vl ((⟨#[45]⟩ ++ D) ++ ⟨#[m8]⟩) 1 D.size = -(n : Int)
    rw [hv]
theorem cvt_byte (u : World) (m8 : UInt8) (more : Int) (h : more = (m8.toNat : Int)) : (convert 62 9 (.slice (some ⟨u.heap.size, 0, none⟩) 1 1)).run Tryz.prog (u.alloc (.cells #[.int .u8 more] 5)) = .ok (.string ⟨#[m8]⟩) (u.alloc (.cells #[.int .u8 more] 5)) := by
  subst h
  exact run_convert_bytes_back (P := Tryz.prog) (u.alloc (.cells #[.int .u8 (m8.toNat : Int)] 5)) 62 9 5 ⟨u.heap.size, 0, none⟩ 1 [m8] Tryz.underlying62 Tryz.underlying5 Tryz.underlying9 (fun j hj => by
    have : j = 0 := by simp at hj; omega
    subst this
    show (u.alloc (.cells #[.int .u8 (m8.toNat : Int)] 5)).cell? ⟨u.heap.size, 0, none⟩ = _
    rw [cell_of_row _ _ 0 _ _ _ (heap_alloc_new u _)]; rfl)
end Go.Proofs.YtkhicgafhbecfaaGreatDoor
