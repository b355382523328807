/- Plain: how many line feeds a catalogue's text has; how large it is; a text cut off or spoilt is rejected there. -/
import Derived.Test.YtaamdimgloblpaaGreatDoorP7
namespace Go.Proofs.YtaamdimgloblpaaGreatDoor
open Go.RowKit

/-- How many line feeds a text has. -/
def nlf (S : ByteArray) : Nat := S.data.toList.count 10
theorem nlf_app (a b : ByteArray) : nlf (a ++ b) = nlf a + nlf b := by
  unfold nlf
  rw [ByteArray.data_append, Array.toList_append, List.count_append]
/-- .. among its first i bytes. -/
def nlfT (S : ByteArray) (i : Nat) : Nat := (S.data.toList.take i).count 10
theorem nlfT_all (S : ByteArray) : nlfT S S.size = nlf S := by
  unfold nlfT nlf
  rw [List.take_of_length_le (by simp)]
theorem nlfT_zero (S : ByteArray) : nlfT S 0 = 0 := by unfold nlfT; rw [List.take_zero]; rfl
theorem nlfT_succ {S : ByteArray} {i : Nat} (h : i < S.size) : nlfT S (i + 1) = nlfT S i + if bt S i = 10 then 1 else 0 := by
  unfold nlfT
  have h' : i < S.data.toList.length := by simpa using h
  have e : bt S i = (((S.data.toList[i]'h').toNat : Nat) : Int) := by
    unfold bt; rw [List.getD_eq_getElem?_getD, List.getElem?_eq_getElem h', Option.getD_some]
  rw [List.take_add_one, List.count_append, List.getElem?_eq_getElem h', e, Option.toList_some, List.count_singleton]
  congr 1
  generalize S.data.toList[i]'h' = x
  by_cases c : x = 10
  · subst c; rfl
  · have : ¬ ((x.toNat : Nat) : Int) = 10 := fun g => c (UInt8.toNat_inj.1 (by show x.toNat = 10; omega))
    rw [if_neg this]
    simp [c]
theorem nlfT_le (S : ByteArray) (i : Nat) : nlfT S i ≤ i := Nat.le_trans (List.count_le_length) (by rw [List.length_take]; omega)
theorem nlf_none {S : ByteArray} (h : ∀ j, j < S.size → bt S j ≠ 10) : nlf S = 0 := by
  rw [← nlfT_all]
  have : ∀ i, i ≤ S.size → nlfT S i = 0 := by
    intro i
    induction i with
    | zero => intro _; exact nlfT_zero S
    | succ i ih => intro hi; rw [nlfT_succ (by omega), ih (by omega), if_neg (h i (by omega))]
  exact this _ (Nat.le_refl _)
theorem nlf_dec {n : Nat} {D : ByteArray} (h : DecOk n D) : nlf D = 0 := nlf_none fun j hj => by
  have := dg_iff.1 (h.dgt j hj)
  rw [Nat.zero_add] at this
  omega
theorem nlf_itB {n : Int} (h : inT n = true) : nlf (itB n) = 0 := by
  obtain ⟨h1, h2⟩ := inT_iff.1 h
  have d := nlf_dec (dec_of (n := n.natAbs) (by omega))
  unfold itB
  split
  · rw [nlf_app, d]; rfl
  · exact d
theorem nlf_idn {s : ByteArray} (h : idn s = true) : nlf s = 0 := nlf_none fun j hj => by
  have := idc_iff.1 ((idn_iff.1 h).2.2 j hj)
  omega
theorem nlf_nm {x : Int} (h1 : 0 ≤ x) (h2 : x ≤ 6) : nlf (nm x) = 0 := by
  have : x = 0 ∨ x = 1 ∨ x = 2 ∨ x = 3 ∨ x = 4 ∨ x = 5 ∨ x = 6 := by omega
  rcases this with rfl | rfl | rfl | rfl | rfl | rfl | rfl <;> decide
theorem nlf_txP (y : Int) : nlf (txP y) = 0 := by
  unfold txP
  split
  · decide
  · split <;> decide
theorem ancB_nth {a : Anc} (h : ancB a = true) (h1 : ¬ a.k = 1) (h2 : ¬ a.k = 2) : 0 ≤ a.w ∧ a.w ≤ 6 := by
  unfold ancB ancK at h
  rw [if_neg h1, if_neg h2] at h
  by_cases c : a.k = 3
  · rw [if_pos c] at h; simp at h; omega
  · rw [if_neg c] at h; simp at h
theorem ancB_in {a : Anc} (h : ancB a = true) : inT a.m = true ∧ inT a.d = true ∧ inT a.o = true ∧ inT a.c = true := by
  unfold ancB at h
  simp only [Bool.and_eq_true] at h
  exact ⟨h.1.1, h.1.2.1, h.1.2.2.1, h.1.2.2.2⟩
theorem nlf_txA {a : Anc} (h : ancB a = true) : nlf (txA a) = 1 := by
  obtain ⟨m, d, o, c⟩ := ancB_in h
  have e1 : nlf wSp = 0 := rfl
  have e2 : nlf wLf = 1 := rfl
  have e3 : nlf wFix = 0 := rfl
  have e4 : nlf wEas = 0 := rfl
  have e5 : nlf wNth = 0 := rfl
  unfold txA
  split
  · simp only [nlf_app, nlf_itB m, nlf_itB d, e1, e2, e3]
  · rename_i h1
    split
    · simp only [nlf_app, nlf_itB o, e1, e2, e4]
    · rename_i h2
      obtain ⟨w1, w2⟩ := ancB_nth h h1 h2
      simp only [nlf_app, nlf_itB m, nlf_itB d, nlf_itB c, nlf_nm w1 w2, e1, e2, e5]
theorem nlf_txS {t : Itm} (h : okS t = true) : nlf (txS t) = 1 := by
  unfold okS at h
  simp only [Bool.and_eq_true] at h
  obtain ⟨a, b, c, d⟩ := h
  have e1 : nlf wSp = 0 := rfl
  have e2 : nlf wSea = 0 := rfl
  unfold txS
  simp only [nlf_app, nlf_idn a, nlf_itB b, nlf_itB c, nlf_txA d, e1, e2]
theorem nlf_txF {t : Itm} (h : okF t = true) : nlf (txF t) = 1 := by
  unfold okF at h
  simp only [Bool.and_eq_true] at h
  obtain ⟨a, b, _, d⟩ := h
  have e1 : nlf wSp = 0 := rfl
  have e2 : nlf wFea = 0 := rfl
  unfold txF
  simp only [nlf_app, nlf_idn a, nlf_itB b, nlf_txP, nlf_txA d, e1, e2]
theorem nlf_txs {f : Itm → ByteArray} : ∀ {l : List Itm}, (∀ t ∈ l, nlf (f t) = 1) → nlf (txs f l) = l.length
  | [], _ => rfl
  | t :: l, h => by
    show nlf (f t ++ txs f l) = _
    rw [nlf_app, h t (by simp), nlf_txs fun t ht => h t (by simp [ht]), List.length_cons]; omega
theorem nlf_txC {c : Cat} (h : okCt c = true) : nlf (txC c) = 3 + (c.ss.length + c.fs.length) := by
  unfold okCt at h
  simp only [Bool.and_eq_true] at h
  obtain ⟨a, b, d⟩ := h
  have e1 : nlf wCat = 1 := rfl
  have e2 : nlf wFre = 0 := rfl
  have e3 : nlf wLf = 1 := rfl
  have e4 : nlf wEnd = 1 := rfl
  unfold txC
  simp only [nlf_app, nlf_itB d, nlf_txs fun t ht => nlf_txS (List.all_eq_true.1 a t ht), nlf_txs fun t ht => nlf_txF (List.all_eq_true.1 b t ht), e1, e2, e3, e4]
  omega
theorem bt_last (a b : ByteArray) (h : 1 ≤ b.size) : bt (a ++ b) ((a ++ b).size - 1) = bt b (b.size - 1) := by
  rw [bt_app, ByteArray.size_append, if_neg (by omega)]
  congr 1
  omega
theorem txC_split (c : Cat) : txC c = (wCat ++ (wFre ++ (itB c.free ++ (wLf ++ (txs txS c.ss ++ txs txF c.fs))))) ++ wEnd := by
  unfold txC
  simp only [ByteArray.append_assoc]
theorem txC_last (c : Cat) : bt (txC c) ((txC c).size - 1) = 10 ∧ 1 ≤ (txC c).size := by
  rw [txC_split]
  refine ⟨(bt_last _ _ (by decide)).trans (by decide), ?_⟩
  rw [ByteArray.size_append]
  have : wEnd.size = 4 := rfl
  omega
/-! sizes -/
theorem txA_size {a : Anc} (h : ancB a = true) : (txA a).size ≤ 61 := by
  rw [txA_J, ByteArray.size_append]
  have := txJ_size h
  have e : wLf.size = 1 := rfl
  omega
theorem txS_le {t : Itm} (h : okS t = true) : (txS t).size ≤ 140 := by
  unfold okS at h
  simp only [Bool.and_eq_true] at h
  obtain ⟨a, b, c, d⟩ := h
  have e1 : wSp.size = 1 := rfl
  have e2 : wSea.size = 7 := rfl
  have a := idn_size a
  have b := itB_size b
  have c := itB_size c
  have d := txA_size d
  unfold txS
  simp only [ByteArray.size_append]
  omega
theorem txF_le {t : Itm} (h : okF t = true) : (txF t).size ≤ 140 := by
  unfold okF at h
  simp only [Bool.and_eq_true] at h
  obtain ⟨a, b, _, d⟩ := h
  have e1 : wSp.size = 1 := rfl
  have e2 : wFea.size = 6 := rfl
  have a := idn_size a
  have b := itB_size b
  have c := txP_size t.y
  have d := txA_size d
  unfold txF
  simp only [ByteArray.size_append]
  omega
theorem txC_size {c : Cat} (h : okCt c = true) (n1 : c.ss.length ≤ 30) (n2 : c.fs.length ≤ 60) : (txC c).size ≤ 20000 := by
  unfold okCt at h
  simp only [Bool.and_eq_true] at h
  obtain ⟨a, b, d⟩ := h
  have h1 := txs_size txS 140 c.ss fun t ht => txS_le (List.all_eq_true.1 a t ht)
  have h2 := txs_size txF 140 c.fs fun t ht => txF_le (List.all_eq_true.1 b t ht)
  have e1 : wCat.size = 10 := rfl
  have e2 : wFre.size = 5 := rfl
  have e3 : wLf.size = 1 := rfl
  have e4 : wEnd.size = 4 := rfl
  have d := itB_size d
  unfold txC
  simp only [ByteArray.size_append]
  omega
/-! a text cut off, spoilt, followed by something -/
def wEx : ByteArray := ⟨#[33]⟩
theorem agr_cut {T : ByteArray} {k : Nat} (h : k ≤ T.size) : Agr (T.extract 0 k) T k := by
  have hs : (T.extract 0 k).size = k := by rw [ext_size (by omega) (by omega)]; omega
  exact ⟨by omega, h, fun i hi => by rw [bt_ext (by omega), Nat.zero_add], fun g => by omega⟩
theorem agr_ex {T : ByteArray} {k : Nat} (h : k ≤ T.size) (R : ByteArray) : Agr ((T.extract 0 k ++ wEx) ++ R) T k := by
  have hs : (T.extract 0 k).size = k := by rw [ext_size (by omega) (by omega)]; omega
  have he : wEx.size = 1 := rfl
  have hz : ((T.extract 0 k ++ wEx) ++ R).size = k + 1 + R.size := by rw [ByteArray.size_append, ByteArray.size_append]; omega
  have h2 : (T.extract 0 k ++ wEx).size = k + 1 := by rw [ByteArray.size_append]; omega
  refine ⟨by omega, h, fun i hi => ?_, fun _ => ?_⟩
  · rw [bt_app, if_pos (by omega), bt_app, if_pos (by omega), bt_ext (by omega), Nat.zero_add]
  · rw [bt_app, if_pos (by omega), bt_app, if_neg (by omega), hs, Nat.sub_self]; rfl
theorem agr_end (T : ByteArray) : Agr (T ++ wEx) T T.size := by
  have he : wEx.size = 1 := rfl
  refine ⟨by rw [ByteArray.size_append]; omega, Nat.le_refl _, fun i hi => ?_, fun _ => ?_⟩
  · rw [bt_app, if_pos hi]
  · rw [bt_app, if_neg (by omega), Nat.sub_self]; rfl
section
variable {N : Nat} {c : Cat} (ho : okCt c = true) (n1 : c.ss.length < N) (n2 : c.fs.length < N)
include ho n1 n2
theorem body_all : pBody N (txC c) ⟨0, false⟩ = (c, ⟨(txC c).size, false⟩) :=
  body_co (S := txC c) (fun j hj => ⟨by omega, by rw [Nat.zero_add]⟩) ho n1 n2
theorem body_agr {S : ByteArray} {k : Nat} (A : Agr S (txC c) k) (hk : k < (txC c).size) : pEnd N S = ⟨k, true⟩ := by
  have e := body_all ho n1 n2
  rcases body_sm A N ⟨0, false⟩ rfl (Nat.zero_le _) (by rw [e]) with ⟨a, _⟩ | ⟨_, b⟩
  · rw [e] at a
    exact absurd hk (by show ¬ k < (txC c).size; exact Nat.not_lt.2 a)
  · unfold pEnd
    rw [b]
    rfl
theorem body_cut {k : Nat} (hk : k < (txC c).size) : pEnd N ((txC c).extract 0 k) = ⟨k, true⟩ := body_agr ho n1 n2 (agr_cut (Nat.le_of_lt hk)) hk
theorem body_ex {k : Nat} (hk : k < (txC c).size) (R : ByteArray) : pEnd N (((txC c).extract 0 k ++ wEx) ++ R) = ⟨k, true⟩ := body_agr ho n1 n2 (agr_ex (Nat.le_of_lt hk) R) hk
theorem body_more : pEnd N (txC c ++ wEx) = ⟨(txC c).size, true⟩ := by
  have e := body_all ho n1 n2
  have he : wEx.size = 1 := rfl
  rcases body_sm (agr_end (txC c)) N ⟨0, false⟩ rfl (Nat.zero_le _) (by rw [e]) with ⟨_, b⟩ | ⟨a, _⟩
  · unfold pEnd
    rw [b, e]
    show (⟨(txC c).size, feB false (txC c ++ wEx) (txC c).size⟩ : Sc) = _
    unfold feB
    rw [decide_eq_true (by rw [ByteArray.size_append]; omega)]
    rfl
  · rw [e] at a
    exact absurd a (Nat.lt_irrefl _)
end
end Go.Proofs.YtaamdimgloblpaaGreatDoor
