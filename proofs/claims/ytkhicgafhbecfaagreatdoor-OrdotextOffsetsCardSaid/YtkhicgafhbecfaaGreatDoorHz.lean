/- Law Canonical: awake, Printable, few, sizes, the reference's Line and Print, the law. -/
import Derived.Test.YtkhicgafhbecfaaGreatDoorEt
import Derived.Test.YtkhicgafhbecfaaGreatDoorEq
import Derived.Test.YtkhicgafhbecfaaGreatDoorP7
import Derived.Test.YtkhicgafhbecfaaGreatDoorEp
import Derived.Test.YtkhicgafhbecfaaGreatDoorKz
import Derived.Test.YtkhicgafhbecfaaGreatDoorEs
import Derived.Test.YtkhicgafhbecfaaGreatDoorEi
import Derived.OpenShut
import Derived.ShutString
import Derived.Lib.SmallJoins
import Derived.Deep.Slices
import Derived.Deep.Fields
namespace Go.Proofs.YtkhicgafhbecfaaGreatDoor
section
open Go.RowKit

/-- How many line feeds a text has. -/
def nlf (S : ByteArray) : Nat := S.data.toList.count 10
theorem nlf_app (a b : ByteArray) : nlf (a ++ b) = nlf a + nlf b := by
  unfold nlf
  rw [ByteArray.data_append, Array.toList_append, List.count_append]
/-- .. among its first i bytes. -/
def nlfT (S : ByteArray) (i : Nat) : Nat := (S.data.toList.take i).count 10
theorem nlfT_all (S : ByteArray) : nlfT S S.size = nlf S := by
  unfold nlfT nlf
  rw [List.take_of_length_le (by simp)]
theorem nlfT_zero (S : ByteArray) : nlfT S 0 = 0 := by unfold nlfT; rw [List.take_zero]; rfl
theorem nlfT_succ {S : ByteArray} {i : Nat} (h : i < S.size) : nlfT S (i + 1) = nlfT S i + if bt S i = 10 then 1 else 0 := by
  unfold nlfT
  have h' : i < S.data.toList.length := by simpa using h
  have e : bt S i = (((S.data.toList[i]'h').toNat : Nat) : Int) := by
    unfold bt; rw [List.getD_eq_getElem?_getD, List.getElem?_eq_getElem h', Option.getD_some]
  rw [List.take_add_one, List.count_append, List.getElem?_eq_getElem h', e, Option.toList_some, List.count_singleton]
  congr 1
  generalize S.data.toList[i]'h' = x
  by_cases c : x = 10
  · subst c; rfl
  · have : ¬ ((x.toNat : Nat) : Int) = 10 := fun g => c (UInt8.toNat_inj.1 (by show x.toNat = 10; omega))
    rw [if_neg this]
    simp [c]
theorem nlfT_le (S : ByteArray) (i : Nat) : nlfT S i ≤ i := Nat.le_trans (List.count_le_length) (by rw [List.length_take]; omega)
theorem nlf_none {S : ByteArray} (h : ∀ j, j < S.size → bt S j ≠ 10) : nlf S = 0 := by
  rw [← nlfT_all]
  have : ∀ i, i ≤ S.size → nlfT S i = 0 := by
    intro i
    induction i with
    | zero => intro _; exact nlfT_zero S
    | succ i ih => intro hi; rw [nlfT_succ (by omega), ih (by omega), if_neg (h i (by omega))]
  exact this _ (Nat.le_refl _)
theorem nlf_dec {n : Nat} {D : ByteArray} (h : DecOk n D) : nlf D = 0 := nlf_none fun j hj => by
  have := dg_iff.1 (h.dgt j hj)
  rw [Nat.zero_add] at this
  omega
theorem nlf_itB {n : Int} (h : inT n = true) : nlf (itB n) = 0 := by
  obtain ⟨h1, h2⟩ := inT_iff.1 h
  have d := nlf_dec (dec_of (n := n.natAbs) (by omega))
  unfold itB
  split
  · rw [nlf_app, d]; rfl
  · exact d
theorem nlf_idn {s : ByteArray} (h : idn s = true) : nlf s = 0 := nlf_none fun j hj => by
  have := idc_iff.1 ((idn_iff.1 h).2.2 j hj)
  omega
theorem nlf_nm {x : Int} (h1 : 0 ≤ x) (h2 : x ≤ 6) : nlf (nm x) = 0 := by
  have : x = 0 ∨ x = 1 ∨ x = 2 ∨ x = 3 ∨ x = 4 ∨ x = 5 ∨ x = 6 := by omega
  rcases this with rfl | rfl | rfl | rfl | rfl | rfl | rfl <;> decide
theorem nlf_txP (y : Int) : nlf (txP y) = 0 := by
  unfold txP
  split
  · decide
  · split <;> decide
theorem ancB_nth {a : Anc} (h : ancB a = true) (h1 : ¬ a.k = 1) (h2 : ¬ a.k = 2) : 0 ≤ a.w ∧ a.w ≤ 6 := by
  unfold ancB ancK at h
  rw [if_neg h1, if_neg h2] at h
  by_cases c : a.k = 3
  · rw [if_pos c] at h; simp at h; omega
  · rw [if_neg c] at h; simp at h
theorem ancB_in {a : Anc} (h : ancB a = true) : inT a.m = true ∧ inT a.d = true ∧ inT a.o = true ∧ inT a.c = true := by
  unfold ancB at h
  simp only [Bool.and_eq_true] at h
  exact ⟨h.1.1, h.1.2.1, h.1.2.2.1, h.1.2.2.2⟩
theorem nlf_txA {a : Anc} (h : ancB a = true) : nlf (txA a) = 1 := by
  obtain ⟨m, d, o, c⟩ := ancB_in h
  have e1 : nlf wSp = 0 := rfl
  have e2 : nlf wLf = 1 := rfl
  have e3 : nlf wFix = 0 := rfl
  have e4 : nlf wEas = 0 := rfl
  have e5 : nlf wNth = 0 := rfl
  unfold txA
  split
  · simp only [nlf_app, nlf_itB m, nlf_itB d, e1, e2, e3]
  · rename_i h1
    split
    · simp only [nlf_app, nlf_itB o, e1, e2, e4]
    · rename_i h2
      obtain ⟨w1, w2⟩ := ancB_nth h h1 h2
      simp only [nlf_app, nlf_itB m, nlf_itB d, nlf_itB c, nlf_nm w1 w2, e1, e2, e5]
theorem nlf_txS {t : Itm} (h : okS t = true) : nlf (txS t) = 1 := by
  unfold okS at h
  simp only [Bool.and_eq_true] at h
  obtain ⟨a, b, c, d⟩ := h
  have e1 : nlf wSp = 0 := rfl
  have e2 : nlf wSea = 0 := rfl
  unfold txS
  simp only [nlf_app, nlf_idn a, nlf_itB b, nlf_itB c, nlf_txA d, e1, e2]
theorem nlf_txF {t : Itm} (h : okF t = true) : nlf (txF t) = 1 := by
  unfold okF at h
  simp only [Bool.and_eq_true] at h
  obtain ⟨a, b, _, d⟩ := h
  have e1 : nlf wSp = 0 := rfl
  have e2 : nlf wFea = 0 := rfl
  unfold txF
  simp only [nlf_app, nlf_idn a, nlf_itB b, nlf_txP, nlf_txA d, e1, e2]
theorem nlf_txs {f : Itm → ByteArray} : ∀ {l : List Itm}, (∀ t ∈ l, nlf (f t) = 1) → nlf (txs f l) = l.length
  | [], _ => rfl
  | t :: l, h => by
    show nlf (f t ++ txs f l) = _
    rw [nlf_app, h t (by simp), nlf_txs fun t ht => h t (by simp [ht]), List.length_cons]; omega
theorem nlf_txC {c : Cat} (h : okCt c = true) : nlf (txC c) = 3 + (c.ss.length + c.fs.length) := by
  unfold okCt at h
  simp only [Bool.and_eq_true] at h
  obtain ⟨a, b, d⟩ := h
  have e1 : nlf wCat = 1 := rfl
  have e2 : nlf wFre = 0 := rfl
  have e3 : nlf wLf = 1 := rfl
  have e4 : nlf wEnd = 1 := rfl
  unfold txC
  simp only [nlf_app, nlf_itB d, nlf_txs fun t ht => nlf_txS (List.all_eq_true.1 a t ht), nlf_txs fun t ht => nlf_txF (List.all_eq_true.1 b t ht), e1, e2, e3, e4]
  omega
theorem bt_last (a b : ByteArray) (h : 1 ≤ b.size) : bt (a ++ b) ((a ++ b).size - 1) = bt b (b.size - 1) := by
  rw [bt_app, ByteArray.size_append, if_neg (by omega)]
  congr 1
  omega
theorem txC_split (c : Cat) : txC c = (wCat ++ (wFre ++ (itB c.free ++ (wLf ++ (txs txS c.ss ++ txs txF c.fs))))) ++ wEnd := by
  unfold txC
  simp only [ByteArray.append_assoc]
theorem txC_last (c : Cat) : bt (txC c) ((txC c).size - 1) = 10 ∧ 1 ≤ (txC c).size := by
  rw [txC_split]
  refine ⟨(bt_last _ _ (by decide)).trans (by decide), ?_⟩
  rw [ByteArray.size_append]
  have : wEnd.size = 4 := rfl
  omega
/-! sizes -/
theorem txA_size {a : Anc} (h : ancB a = true) : (txA a).size ≤ 61 := by
  rw [txA_J, ByteArray.size_append]
  have := txJ_size h
  have e : wLf.size = 1 := rfl
  omega
theorem txS_le {t : Itm} (h : okS t = true) : (txS t).size ≤ 140 := by
  unfold okS at h
  simp only [Bool.and_eq_true] at h
  obtain ⟨a, b, c, d⟩ := h
  have e1 : wSp.size = 1 := rfl
  have e2 : wSea.size = 7 := rfl
  have a := idn_size a
  have b := itB_size b
  have c := itB_size c
  have d := txA_size d
  unfold txS
  simp only [ByteArray.size_append]
  omega
theorem txF_le {t : Itm} (h : okF t = true) : (txF t).size ≤ 140 := by
  unfold okF at h
  simp only [Bool.and_eq_true] at h
  obtain ⟨a, b, _, d⟩ := h
  have e1 : wSp.size = 1 := rfl
  have e2 : wFea.size = 6 := rfl
  have a := idn_size a
  have b := itB_size b
  have c := txP_size t.y
  have d := txA_size d
  unfold txF
  simp only [ByteArray.size_append]
  omega
theorem txC_size {c : Cat} (h : okCt c = true) (n1 : c.ss.length ≤ 30) (n2 : c.fs.length ≤ 60) : (txC c).size ≤ 20000 := by
  unfold okCt at h
  simp only [Bool.and_eq_true] at h
  obtain ⟨a, b, d⟩ := h
  have h1 := txs_size txS 140 c.ss fun t ht => txS_le (List.all_eq_true.1 a t ht)
  have h2 := txs_size txF 140 c.fs fun t ht => txF_le (List.all_eq_true.1 b t ht)
  have e1 : wCat.size = 10 := rfl
  have e2 : wFre.size = 5 := rfl
  have e3 : wLf.size = 1 := rfl
  have e4 : wEnd.size = 4 := rfl
  have d := itB_size d
  unfold txC
  simp only [ByteArray.size_append]
  omega
/-! a text cut off, spoilt, followed by something -/
def wEx : ByteArray := ⟨#[33]⟩
theorem agr_cut {T : ByteArray} {k : Nat} (h : k ≤ T.size) : Agr (T.extract 0 k) T k := by
  have hs : (T.extract 0 k).size = k := by rw [ext_size (by omega) (by omega)]; omega
  exact ⟨by omega, h, fun i hi => by rw [bt_ext (by omega), Nat.zero_add], fun g => by omega⟩
theorem agr_ex {T : ByteArray} {k : Nat} (h : k ≤ T.size) (R : ByteArray) : Agr ((T.extract 0 k ++ wEx) ++ R) T k := by
  have hs : (T.extract 0 k).size = k := by rw [ext_size (by omega) (by omega)]; omega
  have he : wEx.size = 1 := rfl
  have hz : ((T.extract 0 k ++ wEx) ++ R).size = k + 1 + R.size := by rw [ByteArray.size_append, ByteArray.size_append]; omega
  have h2 : (T.extract 0 k ++ wEx).size = k + 1 := by rw [ByteArray.size_append]; omega
  refine ⟨by omega, h, fun i hi => ?_, fun _ => ?_⟩
  · rw [bt_app, if_pos (by omega), bt_app, if_pos (by omega), bt_ext (by omega), Nat.zero_add]
  · rw [bt_app, if_pos (by omega), bt_app, if_neg (by omega), hs, Nat.sub_self]; rfl
theorem agr_end (T : ByteArray) : Agr (T ++ wEx) T T.size := by
  have he : wEx.size = 1 := rfl
  refine ⟨by rw [ByteArray.size_append]; omega, Nat.le_refl _, fun i hi => ?_, fun _ => ?_⟩
  · rw [bt_app, if_pos hi]
  · rw [bt_app, if_neg (by omega), Nat.sub_self]; rfl
section
variable {N : Nat} {c : Cat} (ho : okCt c = true) (n1 : c.ss.length < N) (n2 : c.fs.length < N)
include ho n1 n2
theorem body_all : pBody N (txC c) ⟨0, false⟩ = (c, ⟨(txC c).size, false⟩) :=
  body_co (S := txC c) (fun j hj => ⟨by omega, by rw [Nat.zero_add]⟩) ho n1 n2
theorem body_agr {S : ByteArray} {k : Nat} (A : Agr S (txC c) k) (hk : k < (txC c).size) : pEnd N S = ⟨k, true⟩ := by
  have e := body_all ho n1 n2
  rcases body_sm A N ⟨0, false⟩ rfl (Nat.zero_le _) (by rw [e]) with ⟨a, _⟩ | ⟨_, b⟩
  · rw [e] at a
    exact absurd hk (by show ¬ k < (txC c).size; exact Nat.not_lt.2 a)
  · unfold pEnd
    rw [b]
    rfl
theorem body_cut {k : Nat} (hk : k < (txC c).size) : pEnd N ((txC c).extract 0 k) = ⟨k, true⟩ := body_agr ho n1 n2 (agr_cut (Nat.le_of_lt hk)) hk
theorem body_ex {k : Nat} (hk : k < (txC c).size) (R : ByteArray) : pEnd N (((txC c).extract 0 k ++ wEx) ++ R) = ⟨k, true⟩ := body_agr ho n1 n2 (agr_ex (Nat.le_of_lt hk) R) hk
theorem body_more : pEnd N (txC c ++ wEx) = ⟨(txC c).size, true⟩ := by
  have e := body_all ho n1 n2
  have he : wEx.size = 1 := rfl
  rcases body_sm (agr_end (txC c)) N ⟨0, false⟩ rfl (Nat.zero_le _) (by rw [e]) with ⟨_, b⟩ | ⟨a, _⟩
  · unfold pEnd
    rw [b, e]
    show (⟨(txC c).size, feB false (txC c ++ wEx) (txC c).size⟩ : Sc) = _
    unfold feB
    rw [decide_eq_true (by rw [ByteArray.size_append]; omega)]
    rfl
  · rw [e] at a
    exact absurd a (Nat.lt_irrefl _)
end
end
section
open Go.RowKit

def kS1 : ByteArray := ⟨#[99, 97, 108, 101, 110, 100, 97, 114, 32, 50, 48, 48, 48, 10, 100, 97, 121, 32, 49, 32, 51, 32, 109, 111, 110, 100, 97, 121, 32, 115, 32, 49, 32, 109, 111, 118, 101, 100, 32, 98, 32, 50, 32, 102, 114, 111, 109, 32, 49, 32, 49, 32, 119, 105, 116, 104, 32, 97, 32, 119, 105, 116, 104, 111, 117, 116, 32, 99, 32, 119, 105, 116, 104, 111, 117, 116, 32, 100, 10, 101, 110, 100, 10]⟩
def kS2 : ByteArray := ⟨#[99, 97, 108, 101, 110, 100, 97, 114, 32, 50, 48, 48, 48, 10, 100, 97, 121, 32, 49, 32, 51, 32, 109, 111, 110, 100, 97, 121, 32, 115, 32, 49, 32, 112, 114, 111, 112, 101, 114, 32, 98, 32, 50, 32, 119, 105, 116, 104, 111, 117, 116, 32, 99, 32, 119, 105, 116, 104, 32, 97, 10, 101, 110, 100, 10]⟩
def aEnt : Ent := ⟨2000, 1, 3, 1, ⟨#[115]⟩, 1, 3, ⟨#[98]⟩, 2, 2000, 1, 1, [⟨#[97]⟩], [⟨#[99]⟩, ⟨#[100]⟩]⟩
theorem kE1 : (kEnd 200 kS1).b = false := by kernel_rfl
theorem kC1 : (kBody 200 kS1 ⟨0, false⟩).1 = ⟨2000, [aEnt]⟩ := by kernel_rfl
theorem kE2e : (kEnd 200 kS2) = ⟨58, true⟩ := by kernel_rfl
theorem kP1 : txK ⟨2000, [aEnt]⟩ = ⟨#[99, 97, 108, 101, 110, 100, 97, 114, 32, 50, 48, 48, 48, 10, 100, 97, 121, 32, 49, 32, 51, 32, 109, 111, 110, 100, 97, 121, 32, 115, 32, 49, 32, 109, 111, 118, 101, 100, 32, 98, 32, 50, 32, 102, 114, 111, 109, 32, 49, 32, 49, 32, 119, 105, 116, 104, 32, 97, 32, 119, 105, 116, 104, 111, 117, 116, 32, 99, 32, 119, 105, 116, 104, 111, 117, 116, 32, 100, 10, 101, 110, 100, 10]⟩ := by kernel_rfl
theorem kP0 : txK ⟨2000, []⟩ = ⟨#[99, 97, 108, 101, 110, 100, 97, 114, 32, 50, 48, 48, 48, 10, 101, 110, 100, 10]⟩ := by kernel_rfl
theorem k_par1 (w : World) (hT : WTab w) : Calls Tryz.prog 9 #[.string ⟨#[99, 97, 108, 101, 110, 100, 97, 114, 32, 50, 48, 48, 48, 10, 100, 97, 121, 32, 49, 32, 51, 32, 109, 111, 110, 100, 97, 121, 32, 115, 32, 49, 32, 109, 111, 118, 101, 100, 32, 98, 32, 50, 32, 102, 114, 111, 109, 32, 49, 32, 49, 32, 119, 105, 116, 104, 32, 97, 32, 119, 105, 116, 104, 111, 117, 116, 32, 99, 32, 119, 105, 116, 104, 111, 117, 116, 32, 100, 10, 101, 110, 100, 10]⟩] w fun e w' => ∃ v vc vo, e = .returned (.tuple #[.agg #[.int .i64 2000, v], .int .i64 0, .int .i64 0]) ∧ KlAt w' v [⟨aEnt, vc, vo⟩] ∧ Below w.heap.size w w' := by
  have h := p27par_yes (S := kS1) (N := 200) (w := w) (by decide) (by decide) (by decide) hT kE1
  rw [kC1] at h
  refine h.mono ?_
  rintro e w' ⟨v, l, h1, h2, h3, h4⟩
  match l, h3 with
  | [⟨e', vc, vo⟩], h3 =>
    obtain rfl : e' = aEnt := by simpa using h3
    exact ⟨v, vc, vo, h1, h2, h4⟩
theorem k_par2 (w : World) (hT : WTab w) : Calls Tryz.prog 9 #[.string ⟨#[99, 97, 108, 101, 110, 100, 97, 114, 32, 50, 48, 48, 48, 10, 100, 97, 121, 32, 49, 32, 51, 32, 109, 111, 110, 100, 97, 121, 32, 115, 32, 49, 32, 112, 114, 111, 112, 101, 114, 32, 98, 32, 50, 32, 119, 105, 116, 104, 111, 117, 116, 32, 99, 32, 119, 105, 116, 104, 32, 97, 10, 101, 110, 100, 10]⟩] w fun e w' => e = .returned (.tuple #[.agg #[.int .i64 0, .slice none 0 0], .int .i64 58, .int .i64 6]) ∧ Below w.heap.size w w' := by
  have h := p27par_no (S := kS2) (N := 200) (w := w) (by decide) (by decide) (by decide) hT (by rw [kE2e])
  rw [kE2e] at h
  exact h
theorem k_pri0 (w : World) (hT : T26 w) : Calls Tryz.prog 14 #[.agg #[.int .i64 2000, .slice none 0 0]] w fun e w' => e = .returned (.string ⟨#[99, 97, 108, 101, 110, 100, 97, 114, 32, 50, 48, 48, 48, 10, 101, 110, 100, 10]⟩) ∧ Below w.heap.size w w' := by
  have h := p27pri (yr := 2000) (es := []) hT (KlAt.nil w) rfl (by decide) (by simp) (by rw [kP0]; decide) (by simp)
  rw [kP0] at h
  exact h
theorem aEnt_ok : LnOk aEnt := .of (y := 2000) (by kernel_rfl) (by decide) (by decide)
theorem k_pri1 {v vc vo : Value} (w : World) (hT : T26 w) (h : KlAt w v [⟨aEnt, vc, vo⟩]) : Calls Tryz.prog 14 #[.agg #[.int .i64 2000, v]] w fun e w' => e = .returned (.string ⟨#[99, 97, 108, 101, 110, 100, 97, 114, 32, 50, 48, 48, 48, 10, 100, 97, 121, 32, 49, 32, 51, 32, 109, 111, 110, 100, 97, 121, 32, 115, 32, 49, 32, 109, 111, 118, 101, 100, 32, 98, 32, 50, 32, 102, 114, 111, 109, 32, 49, 32, 49, 32, 119, 105, 116, 104, 32, 97, 32, 119, 105, 116, 104, 111, 117, 116, 32, 99, 32, 119, 105, 116, 104, 111, 117, 116, 32, 100, 10, 101, 110, 100, 10]⟩) ∧ Below w.heap.size w w' := by
  have h := p27pri (yr := 2000) (es := [aEnt]) hT h rfl (by decide) (by intro e he; rw [List.mem_singleton] at he; rw [he]; exact aEnt_ok) (by rw [kP1]; decide) (by simp)
  rw [kP1] at h
  exact h
theorem StrsIn.tx {g cap : Nat} {xs : List ByteArray} {w : World} (h : StrsIn g cap xs w) : TxAt w (.slice (some ⟨g, 0, none⟩) xs.length cap) xs := by
  refine ⟨_, cap, rfl, h.le, h.mx, fun i s hi => ⟨g, 0, rfl, h.lt, ?_⟩⟩
  have hl : i < xs.length := (List.getElem?_eq_some_iff.1 hi).1
  rw [Nat.zero_add, h.cell i hl, List.getD_eq_getElem?_getD, hi]; rfl
/-- What awake keeps. -/
structure Aw27 (w0 : World) (B b1 o1 c1 Wn : Nat) (vc vo va vd : Value) (u : World) : Prop where
  row : u.heap[B]? = some (.cells #[.int .i64 2000, .slice (some ⟨b1, o1, none⟩) 1 c1] 25 (0, 0))
  want : u.heap[Wn]? = some (.cells #[.int .i64 2000, .int .i64 1, .int .i64 3, .int .i64 1, .string ⟨#[115]⟩, .int .i64 1, .int .i64 3, .string ⟨#[98]⟩, .int .i64 2, .int .i64 2000, .int .i64 1, .int .i64 1, va, vd] 40 (0, 0))
  k : KlAt u (.slice (some ⟨b1, o1, none⟩) 1 c1) [⟨aEnt, vc, vo⟩]
  a : TxAt u va [⟨#[97]⟩]
  d : TxAt u vd [⟨#[99]⟩, ⟨#[100]⟩]
  bl : Below w0.heap.size w0 u
section
variable {w0 u u' : World} {B b1 o1 c1 Wn : Nat} {vc vo va vd : Value}
theorem Aw27.on (h : Aw27 w0 B b1 o1 c1 Wn vc vo va vd u) (hb : Below u.heap.size u u') : Aw27 w0 B b1 o1 c1 Wn vc vo va vd u' :=
  ⟨row_kept h.row hb, row_kept h.want hb, h.k.on hb, h.a.on hb, h.d.on hb, below_on h.bl hb⟩
theorem Aw27.c2 (h : Aw27 w0 B b1 o1 c1 Wn vc vo va vd u) : u.cell? ⟨B, 0, none⟩ = some (.int .i64 2000) ∧ u.cell? ⟨B, 1, none⟩ = some (.slice (some ⟨b1, o1, none⟩) 1 c1) := by
  refine ⟨?_, ?_⟩ <;> (rw [cell_of_row _ _ _ _ _ _ h.row]; rfl)
theorem Aw27.e (h : Aw27 w0 B b1 o1 c1 Wn vc vo va vd u) : (∀ j, j < 14 → u.cell? ⟨b1, o1 + j, none⟩ = (⟨aEnt, vc, vo⟩ : Enz).vals[j]?) ∧ TxAt u vc [⟨#[97]⟩] ∧ TxAt u vo [⟨#[99]⟩, ⟨#[100]⟩] := by
  obtain ⟨A, cap, e, _, _, h3⟩ := h.k
  obtain ⟨⟨b, o, e1, _, g⟩, t1, t2⟩ := h3 0 _ rfl
  subst e1
  injection e with e1 _ _
  injection e1 with e1
  injection e1 with e1 e2
  subst e1 e2
  exact ⟨fun j hj => by have := g j hj; rwa [Nat.zero_mul, Nat.add_zero] at this, t1, t2⟩
end
set_option maxRecDepth 100000 in
set_option maxHeartbeats 4000000 in
theorem c27awake_any (w : World) (hT : T26 w) : Calls Tryz.prog 8 #[] w fun e w' => e = .returned (.bool true) ∧ Below w.heap.size w w' := by
  have H1 := Lib.hid (fun (u : World) (h : T26 u) => k_par1 u h.wk)
  have H2 := Lib.hid (fun (u : World) (h : T26 u) => k_par2 u h.wk)
  have H3 := Lib.hid (fun (u : World) (h : T26 u) => k_pri0 u h)
  have H4 := Lib.hid (fun (v vc vo : Value) (u : World) (h : T26 u) (hk : KlAt u v [⟨aEnt, vc, vo⟩]) => k_pri1 u h hk)
  have HS := Lib.hid (fun (u : World) (vc vo vc' vo' : Value) (h1 : TxAt u vc [⟨#[97]⟩]) (h2 : TxAt u vo [⟨#[99]⟩, ⟨#[100]⟩]) (h3 : TxAt u vc' [⟨#[97]⟩]) (h4 : TxAt u vo' [⟨#[99]⟩, ⟨#[100]⟩]) => r23ent (ey := 2000) (em := 1) (ed := 3) (ewd := 1) (ese := ⟨#[115]⟩) (ewk := 1) (eki := 3) (epr := ⟨#[98]⟩) (erk := 2) (efy := 2000) (efm := 1) (efd := 1) h1 h2 h3 h4 (by decide) (by decide))
  have hT := Lib.hid hT
  go_enter Tryz.func8, Tryz.ntmps8
  go_wp2_with fail
  refine (H1.out _ hT.out).mono ?_
  rintro e u1 ⟨v, vc, vo, rfl, hk, hb⟩
  obtain ⟨A, c1, rfl, hc1, hcm, h3⟩ := id hk
  obtain ⟨⟨b1, o1, rfl, -, -⟩, -, -⟩ := h3 0 _ rfl
  have al := al1 u1 (.cells #[.int .i64 2000, .slice (some ⟨b1, o1, none⟩) 1 c1] 25)
  have R1 : (u1.alloc (.cells #[.int .i64 2000, .slice (some ⟨b1, o1, none⟩) 1 c1] 25)).heap[u1.heap.size]? = some (.cells #[.int .i64 2000, .slice (some ⟨b1, o1, none⟩) 1 c1] 25 (0, 0)) := heap_alloc_new _ _
  have K1 := Lib.hid (hk.on al)
  have B1 := Lib.hid (below_on hb al)
  have R1 := Lib.hid R1
  clear hk hb h3 al
  go_wp2_with fail
  refine (H2.out _ (hT.out.on B1.out)).mono ?_
  rintro e u2 ⟨rfl, hb⟩
  have al := al1 u2 (.cells #[.int .i64 0, .slice none 0 0] 25)
  have R2 := row_kept (row_kept R1.out hb) al
  have K2 := Lib.hid ((K1.out.on hb).on al)
  have B2x := Lib.hid (below_on (below_on B1.out hb) al)
  clear hb K1 B1 al
  have k1 : (u2.alloc (.cells #[.int .i64 0, .slice none 0 0] 25)).cell? ⟨u1.heap.size, 1, none⟩ = some (.slice (some ⟨b1, o1, none⟩) 1 c1) := by rw [cell_of_row _ _ _ _ _ _ R2]; rfl
  have R2 := Lib.hid R2
  have hc1 : (1 : Nat) ≤ c1 := hc1
  go_wp2_with fail
  clear k1
  obtain ⟨u3, hu3⟩ : ∃ u, u = u2.alloc (.cells #[.int .i64 0, .slice none 0 0] 25) := ⟨_, rfl⟩
  rw [← hu3] at R2 K2 B2x ⊢
  have hz3 : u2.heap.size + 1 = u3.heap.size := by rw [hu3]; simp
  (try rw [hz3])
  clear hu3 hz3
  obtain ⟨u4, hu4⟩ : ∃ u, u = ((u3.alloc (.cells #[.string ⟨#[97]⟩] 9)).alloc (.cells #[.string ⟨#[99]⟩, .string ⟨#[100]⟩] 9)).alloc (.cells #[.int .i64 2000, .int .i64 1, .int .i64 3, .int .i64 1, .string ⟨#[115]⟩, .int .i64 1, .int .i64 3, .string ⟨#[98]⟩, .int .i64 2, .int .i64 2000, .int .i64 1, .int .i64 1, .slice (some ⟨u3.heap.size, 0, none⟩) 1 1, .slice (some ⟨u3.heap.size + 1, 0, none⟩) 2 2] 40) := ⟨_, rfl⟩
  have al := hu4 ▸ al3 u3 (.cells #[.string ⟨#[97]⟩] 9) (.cells #[.string ⟨#[99]⟩, .string ⟨#[100]⟩] 9) (.cells #[.int .i64 2000, .int .i64 1, .int .i64 3, .int .i64 1, .string ⟨#[115]⟩, .int .i64 1, .int .i64 3, .string ⟨#[98]⟩, .int .i64 2, .int .i64 2000, .int .i64 1, .int .i64 1, .slice (some ⟨u3.heap.size, 0, none⟩) 1 1, .slice (some ⟨u3.heap.size + 1, 0, none⟩) 2 2] 40)
  have hA : TxAt u4 (.slice (some ⟨u3.heap.size, 0, none⟩) 1 1) [⟨#[97]⟩] := by
    have h := (lit1 (w := u3) ⟨#[97]⟩ 9).tx
    have h := (h.on (al1 _ (.cells #[.string ⟨#[99]⟩, .string ⟨#[100]⟩] 9))).on (al1 _ (.cells #[.int .i64 2000, .int .i64 1, .int .i64 3, .int .i64 1, .string ⟨#[115]⟩, .int .i64 1, .int .i64 3, .string ⟨#[98]⟩, .int .i64 2, .int .i64 2000, .int .i64 1, .int .i64 1, .slice (some ⟨u3.heap.size, 0, none⟩) 1 1, .slice (some ⟨u3.heap.size + 1, 0, none⟩) 2 2] 40))
    rw [← hu4] at h
    exact h
  have hD : TxAt u4 (.slice (some ⟨u3.heap.size + 1, 0, none⟩) 2 2) [⟨#[99]⟩, ⟨#[100]⟩] := by
    have h := (lit2 (w := u3.alloc (.cells #[.string ⟨#[97]⟩] 9)) ⟨#[99]⟩ ⟨#[100]⟩ 9).tx
    have h := h.on (al1 _ (.cells #[.int .i64 2000, .int .i64 1, .int .i64 3, .int .i64 1, .string ⟨#[115]⟩, .int .i64 1, .int .i64 3, .string ⟨#[98]⟩, .int .i64 2, .int .i64 2000, .int .i64 1, .int .i64 1, .slice (some ⟨u3.heap.size, 0, none⟩) 1 1, .slice (some ⟨u3.heap.size + 1, 0, none⟩) 2 2] 40))
    rw [← hu4, show (u3.alloc (.cells #[.string ⟨#[97]⟩] 9)).heap.size = u3.heap.size + 1 by simp] at h
    exact h
  have A4 : Aw27 w u1.heap.size b1 o1 c1 (u3.heap.size + 1 + 1) vc vo (.slice (some ⟨u3.heap.size, 0, none⟩) 1 1) (.slice (some ⟨u3.heap.size + 1, 0, none⟩) 2 2) u4 :=
    ⟨row_kept R2.out al, hu4 ▸ row_new2 _ _ _ _, K2.out.on al, hA, hD, below_on B2x.out al⟩
  rw [← hu4]
  clear hu4 al hA hD R2 K2 B2x
  generalize u3.heap.size + 1 + 1 = Wn at *
  generalize hva : Value.slice (some ⟨u3.heap.size, 0, none⟩) 1 1 = va at *
  generalize hvd : Value.slice (some ⟨u3.heap.size + 1, 0, none⟩) 2 2 = vd at *
  have hvc : ∃ a n c, vc = .slice a n c := by obtain ⟨A, cap, e, -⟩ := A4.e.2.1; exact ⟨_, _, _, e⟩
  have hvo : ∃ a n c, vo = .slice a n c := by obtain ⟨A, cap, e, -⟩ := A4.e.2.2; exact ⟨_, _, _, e⟩
  obtain ⟨ac, nc, kc, rfl⟩ := hvc
  obtain ⟨ao, no, ko, rfl⟩ := hvo
  have A4 := Lib.hid A4
  refine wp_region_held_drew (S := fun u => Aw27 w u1.heap.size b1 o1 c1 Wn (.slice ac nc kc) (.slice ao no ko) va vd u) (by kernel_rfl) (A4.out.on (below_dn (Below.refl _ _) 1)) (fun hHeld => ?_)
  refine wpAnyH_take (i := 0) (oi := { dst := some 29, op := _, type := _, pos := _, after := _, guard := _ }) (v := ?v1_0) rfl (by kernel_rfl) (by kernel_rfl) (by kernel_rfl) (fun _ _ _ h => h) (Or.inl ⟨by rfl, ?hy1_0⟩) hHeld ?_
  case hy1_0 => (intro wq hSw; skip; go_simp; try with_reducible rfl)
  simp only [Act.put, List.setIfInBounds_toArray, List.set_cons_zero, List.set_cons_succ]
  refine wpAnyH_ready (rs := [1]) (by kernel_rfl) (by simp) ?_
  refine AllReadyH.cons (o := { dst := some 30, op := _, type := _, pos := _, after := _, guard := _ }) rfl (fun K hK => ?_) AllReadyH.nil
  go_simp
  go_at_call 14
  refine (H3.out _ (hT.out.on hHeld.bl)).mono ?_
  rintro e1 v1 ⟨rfl, b1x⟩
  have A5 := hHeld.on b1x
  clear b1x
  refine hK.out _ _ A5 (fun hHeld => ?_)
  clear hK K
  refine wpAnyH_take (i := 2) (oi := { dst := some 31, op := _, type := _, pos := _, after := _, guard := _ }) (v := ?v1_2) rfl (by kernel_rfl) (by kernel_rfl) (by kernel_rfl) (fun _ _ _ h => h) (Or.inl ⟨by rfl, ?hy1_2⟩) hHeld ?_
  case hy1_2 => (intro wq hSw; skip; go_simp; try with_reducible rfl)
  simp only [Act.put, List.setIfInBounds_toArray, List.set_cons_zero, List.set_cons_succ]
  refine wpAnyH_take (i := 3) (oi := { dst := some 32, op := _, type := _, pos := _, after := _, guard := _ }) (v := ?v1_3) rfl (by kernel_rfl) (by kernel_rfl) (by kernel_rfl) (fun _ _ _ h => h) (Or.inl ⟨by rfl, ?hy1_3⟩) hHeld ?_
  case hy1_3 => (intro wq hSw; skip; go_simp; try with_reducible rfl)
  simp only [Act.put, List.setIfInBounds_toArray, List.set_cons_zero, List.set_cons_succ]
  refine wpAnyH_take (i := 4) (oi := { dst := some 33, op := _, type := _, pos := _, after := _, guard := _ }) (v := ?v1_4) rfl (by kernel_rfl) (by kernel_rfl) (by kernel_rfl) (fun _ _ _ h => h) (Or.inl ⟨by rfl, ?hy1_4⟩) hHeld ?_
  case hy1_4 => (intro wq hSw; skip; go_simp; try with_reducible rfl)
  simp only [Act.put, List.setIfInBounds_toArray, List.set_cons_zero, List.set_cons_succ]
  refine wpAnyH_take (i := 5) (oi := { dst := some 34, op := _, type := _, pos := _, after := _, guard := _ }) (v := ?v1_5) rfl (by kernel_rfl) (by kernel_rfl) (by kernel_rfl) (fun _ _ _ h => h) (Or.inl ⟨by rfl, ?hy1_5⟩) hHeld ?_
  case hy1_5 => (intro wq hSw; obtain ⟨s0, s1⟩ := hSw.c2; go_simp; try with_reducible rfl)
  simp only [Act.put, List.setIfInBounds_toArray, List.set_cons_zero, List.set_cons_succ]
  refine wpAnyH_take (i := 6) (oi := { dst := some 35, op := _, type := _, pos := _, after := _, guard := _ }) (v := ?v1_6) rfl (by kernel_rfl) (by kernel_rfl) (by kernel_rfl) (fun _ _ _ h => h) (Or.inl ⟨by rfl, ?hy1_6⟩) hHeld ?_
  case hy1_6 => (intro wq hSw; skip; go_simp; try with_reducible rfl)
  simp only [Act.put, List.setIfInBounds_toArray, List.set_cons_zero, List.set_cons_succ]
  refine wpAnyH_take (i := 7) (oi := { dst := some 36, op := _, type := _, pos := _, after := _, guard := _ }) (v := ?v1_7) rfl (by kernel_rfl) (by kernel_rfl) (by kernel_rfl) (fun _ _ _ h => h) (Or.inl ⟨by rfl, ?hy1_7⟩) hHeld ?_
  case hy1_7 => (intro wq hSw; have g1 := hSw.e.1; have s0 := g1 0 (by omega); have s1 := g1 1 (by omega); have s2 := g1 2 (by omega); have s3 := g1 3 (by omega); have s4 := g1 4 (by omega); have s5 := g1 5 (by omega); have s6 := g1 6 (by omega); have s7 := g1 7 (by omega); have s8 := g1 8 (by omega); have s9 := g1 9 (by omega); have s10 := g1 10 (by omega); have s11 := g1 11 (by omega); have s12 := g1 12 (by omega); have s13 := g1 13 (by omega); simp only [Enz.vals, aEnt, List.getElem?_cons_succ, List.getElem?_cons_zero, Nat.add_zero] at s0 s1 s2 s3 s4 s5 s6 s7 s8 s9 s10 s11 s12 s13; go_simp; try with_reducible rfl)
  simp only [Act.put, List.setIfInBounds_toArray, List.set_cons_zero, List.set_cons_succ]
  refine wpAnyH_take (i := 8) (oi := { dst := some 37, op := _, type := _, pos := _, after := _, guard := _ }) (v := ?v1_8) rfl (by kernel_rfl) (by kernel_rfl) (by kernel_rfl) (fun _ _ _ h => h) (Or.inl ⟨by rfl, ?hy1_8⟩) hHeld ?_
  case hy1_8 => (intro wq hSw; obtain ⟨s0, s1, s2, s3, s4, s5, s6, s7, s8, s9, s10, s11, s12, s13⟩ := row14 hSw.want; go_simp; try with_reducible rfl)
  simp only [Act.put, List.setIfInBounds_toArray, List.set_cons_zero, List.set_cons_succ]
  refine wpAnyH_ready (rs := [9]) (by kernel_rfl) (by simp) ?_
  refine AllReadyH.cons (o := { dst := some 38, op := _, type := _, pos := _, after := _, guard := _ }) rfl (fun K hK => ?_) AllReadyH.nil
  go_simp
  go_at_call 18
  refine (HS.out _ _ _ _ _ A5.e.2.1 A5.e.2.2 A5.a A5.d).mono ?_
  rintro e2 v2 ⟨rfl, b2x⟩
  have A6 := A5.on b2x
  clear b2x A5
  refine hK.out _ _ A6 (fun hHeld => ?_)
  clear hK K
  refine wpAnyH_take (i := 10) (oi := { dst := some 39, op := _, type := _, pos := _, after := _, guard := _ }) (v := ?v1_10) rfl (by kernel_rfl) (by kernel_rfl) (by kernel_rfl) (fun _ _ _ h => h) (Or.inl ⟨by rfl, ?hy1_10⟩) hHeld ?_
  case hy1_10 => (intro wq hSw; skip; go_simp; try with_reducible rfl)
  simp only [Act.put, List.setIfInBounds_toArray, List.set_cons_zero, List.set_cons_succ]
  refine wpAnyH_take (i := 11) (oi := { dst := some 40, op := _, type := _, pos := _, after := _, guard := _ }) (v := ?v1_11) rfl (by kernel_rfl) (by kernel_rfl) (by kernel_rfl) (fun _ _ _ h => h) (Or.inl ⟨by rfl, ?hy1_11⟩) hHeld ?_
  case hy1_11 => (intro wq hSw; skip; go_simp; try with_reducible rfl)
  simp only [Act.put, List.setIfInBounds_toArray, List.set_cons_zero, List.set_cons_succ]
  refine wpAnyH_take (i := 12) (oi := { dst := some 41, op := _, type := _, pos := _, after := _, guard := _ }) (v := ?v1_12) rfl (by kernel_rfl) (by kernel_rfl) (by kernel_rfl) (fun _ _ _ h => h) (Or.inl ⟨by rfl, ?hy1_12⟩) hHeld ?_
  case hy1_12 => (intro wq hSw; skip; go_simp; try with_reducible rfl)
  simp only [Act.put, List.setIfInBounds_toArray, List.set_cons_zero, List.set_cons_succ]
  refine wpAnyH_take (i := 13) (oi := { dst := some 42, op := _, type := _, pos := _, after := _, guard := _ }) (v := ?v1_13) rfl (by kernel_rfl) (by kernel_rfl) (by kernel_rfl) (fun _ _ _ h => h) (Or.inl ⟨by rfl, ?hy1_13⟩) hHeld ?_
  case hy1_13 => (intro wq hSw; skip; go_simp; try with_reducible rfl)
  simp only [Act.put, List.setIfInBounds_toArray, List.set_cons_zero, List.set_cons_succ]
  refine wpAnyH_take (i := 14) (oi := { dst := some 43, op := _, type := _, pos := _, after := _, guard := _ }) (v := ?v1_14) rfl (by kernel_rfl) (by kernel_rfl) (by kernel_rfl) (fun _ _ _ h => h) (Or.inl ⟨by rfl, ?hy1_14⟩) hHeld ?_
  case hy1_14 => (intro wq hSw; skip; go_simp; try with_reducible rfl)
  simp only [Act.put, List.setIfInBounds_toArray, List.set_cons_zero, List.set_cons_succ]
  refine wpAnyH_take (i := 15) (oi := { dst := some 44, op := _, type := _, pos := _, after := _, guard := _ }) (v := ?v1_15) rfl (by kernel_rfl) (by kernel_rfl) (by kernel_rfl) (fun _ _ _ h => h) (Or.inl ⟨by rfl, ?hy1_15⟩) hHeld ?_
  case hy1_15 => (intro wq hSw; skip; go_simp; try with_reducible rfl)
  simp only [Act.put, List.setIfInBounds_toArray, List.set_cons_zero, List.set_cons_succ]
  refine wpAnyH_take (i := 16) (oi := { dst := some 45, op := _, type := _, pos := _, after := _, guard := _ }) (v := ?v1_16) rfl (by kernel_rfl) (by kernel_rfl) (by kernel_rfl) (fun _ _ _ h => h) (Or.inl ⟨by rfl, ?hy1_16⟩) hHeld ?_
  case hy1_16 => (intro wq hSw; skip; go_simp; try with_reducible rfl)
  simp only [Act.put, List.setIfInBounds_toArray, List.set_cons_zero, List.set_cons_succ]
  refine wpAnyH_take (i := 17) (oi := { dst := some 46, op := _, type := _, pos := _, after := _, guard := _ }) (v := ?v1_17) rfl (by kernel_rfl) (by kernel_rfl) (by kernel_rfl) (fun _ _ _ h => h) (Or.inl ⟨by rfl, ?hy1_17⟩) hHeld ?_
  case hy1_17 => (intro wq hSw; skip; go_simp; try with_reducible rfl)
  simp only [Act.put, List.setIfInBounds_toArray, List.set_cons_zero, List.set_cons_succ]
  refine wpAnyH_take (i := 18) (oi := { dst := some 47, op := _, type := _, pos := _, after := _, guard := _ }) (v := ?v1_18) rfl (by kernel_rfl) (by kernel_rfl) (by kernel_rfl) (fun _ _ _ h => h) (Or.inl ⟨by rfl, ?hy1_18⟩) hHeld ?_
  case hy1_18 => (intro wq hSw; skip; go_simp; try with_reducible rfl)
  simp only [Act.put, List.setIfInBounds_toArray, List.set_cons_zero, List.set_cons_succ]
  refine wpAnyH_take (i := 19) (oi := { dst := some 48, op := _, type := _, pos := _, after := _, guard := _ }) (v := ?v1_19) rfl (by kernel_rfl) (by kernel_rfl) (by kernel_rfl) (fun _ _ _ h => h) (Or.inl ⟨by rfl, ?hy1_19⟩) hHeld ?_
  case hy1_19 => (intro wq hSw; skip; go_simp; try with_reducible rfl)
  simp only [Act.put, List.setIfInBounds_toArray, List.set_cons_zero, List.set_cons_succ]
  refine wpAnyH_take (i := 20) (oi := { dst := some 49, op := _, type := _, pos := _, after := _, guard := _ }) (v := ?v1_20) rfl (by kernel_rfl) (by kernel_rfl) (by kernel_rfl) (fun _ _ _ h => h) (Or.inl ⟨by rfl, ?hy1_20⟩) hHeld ?_
  case hy1_20 => (intro wq hSw; obtain ⟨s0, s1⟩ := hSw.c2; go_simp; try with_reducible rfl)
  simp only [Act.put, List.setIfInBounds_toArray, List.set_cons_zero, List.set_cons_succ]
  refine wpAnyH_take (i := 22) (oi := { dst := some 51, op := _, type := _, pos := _, after := _, guard := _ }) (v := ?v1_22) rfl (by kernel_rfl) (by kernel_rfl) (by kernel_rfl) (fun _ _ _ h => h) (Or.inl ⟨by rfl, ?hy1_22⟩) hHeld ?_
  case hy1_22 => (intro wq hSw; skip; go_simp; try with_reducible rfl)
  simp only [Act.put, List.setIfInBounds_toArray, List.set_cons_zero, List.set_cons_succ]
  refine wpAnyH_ready (rs := [21]) (by kernel_rfl) (by simp) ?_
  refine AllReadyH.cons (o := { dst := some 50, op := _, type := _, pos := _, after := _, guard := _ }) rfl (fun K hK => ?_) AllReadyH.nil
  go_simp
  go_at_call 14
  refine (H4.out _ _ _ _ (hT.out.on A6.bl) A6.k).mono ?_
  rintro e3 v3 ⟨rfl, b3x⟩
  have A7 := A6.on b3x
  clear b3x A6
  refine hK.out _ _ A7 (fun hHeld => ?_)
  clear hK K
  refine wpAnyH_take (i := 23) (oi := { dst := some 52, op := _, type := _, pos := _, after := _, guard := _ }) (v := ?v1_23) rfl (by kernel_rfl) (by kernel_rfl) (by kernel_rfl) (fun _ _ _ h => h) (Or.inl ⟨by rfl, ?hy1_23⟩) hHeld ?_
  case hy1_23 => (intro wq hSw; skip; go_simp; try with_reducible rfl)
  simp only [Act.put, List.setIfInBounds_toArray, List.set_cons_zero, List.set_cons_succ]
  refine wpAnyH_take (i := 24) (oi := { dst := some 53, op := _, type := _, pos := _, after := _, guard := _ }) (v := ?v1_24) rfl (by kernel_rfl) (by kernel_rfl) (by kernel_rfl) (fun _ _ _ h => h) (Or.inl ⟨by rfl, ?hy1_24⟩) hHeld ?_
  case hy1_24 => (intro wq hSw; skip; go_simp; try with_reducible rfl)
  simp only [Act.put, List.setIfInBounds_toArray, List.set_cons_zero, List.set_cons_succ]
  refine wpAnyH_take (i := 25) (oi := { dst := some 54, op := _, type := _, pos := _, after := _, guard := _ }) (v := ?v1_25) rfl (by kernel_rfl) (by kernel_rfl) (by kernel_rfl) (fun _ _ _ h => h) (Or.inl ⟨by rfl, ?hy1_25⟩) hHeld ?_
  case hy1_25 => (intro wq hSw; skip; go_simp; try with_reducible rfl)
  simp only [Act.put, List.setIfInBounds_toArray, List.set_cons_zero, List.set_cons_succ]
  refine wpAnyH_take (i := 26) (oi := { dst := some 55, op := _, type := _, pos := _, after := _, guard := _ }) (v := ?v1_26) rfl (by kernel_rfl) (by kernel_rfl) (by kernel_rfl) (fun _ _ _ h => h) (Or.inl ⟨by rfl, ?hy1_26⟩) hHeld ?_
  case hy1_26 => (intro wq hSw; skip; go_simp; try with_reducible rfl)
  simp only [Act.put, List.setIfInBounds_toArray, List.set_cons_zero, List.set_cons_succ]
  refine wpAnyH_take (i := 27) (oi := { dst := some 56, op := _, type := _, pos := _, after := _, guard := _ }) (v := ?v1_27) rfl (by kernel_rfl) (by kernel_rfl) (by kernel_rfl) (fun _ _ _ h => h) (Or.inl ⟨by rfl, ?hy1_27⟩) hHeld ?_
  case hy1_27 => (intro wq hSw; skip; go_simp; try with_reducible rfl)
  simp only [Act.put, List.setIfInBounds_toArray, List.set_cons_zero, List.set_cons_succ]
  refine wpAnyH_take (i := 28) (oi := { dst := some 57, op := _, type := _, pos := _, after := _, guard := _ }) (v := ?v1_28) rfl (by kernel_rfl) (by kernel_rfl) (by kernel_rfl) (fun _ _ _ h => h) (Or.inl ⟨by rfl, ?hy1_28⟩) hHeld ?_
  case hy1_28 => (intro wq hSw; skip; go_simp; try with_reducible rfl)
  simp only [Act.put, List.setIfInBounds_toArray, List.set_cons_zero, List.set_cons_succ]
  refine wpAnyH_take (i := 29) (oi := { dst := some 58, op := _, type := _, pos := _, after := _, guard := _ }) (v := ?v1_29) rfl (by kernel_rfl) (by kernel_rfl) (by kernel_rfl) (fun _ _ _ h => h) (Or.inl ⟨by rfl, ?hy1_29⟩) hHeld ?_
  case hy1_29 => (intro wq hSw; skip; go_simp; try with_reducible rfl)
  simp only [Act.put, List.setIfInBounds_toArray, List.set_cons_zero, List.set_cons_succ]
  refine wpAnyH_take (i := 30) (oi := { dst := some 59, op := _, type := _, pos := _, after := _, guard := _ }) (v := ?v1_30) rfl (by kernel_rfl) (by kernel_rfl) (by kernel_rfl) (fun _ _ _ h => h) (Or.inl ⟨by rfl, ?hy1_30⟩) hHeld ?_
  case hy1_30 => (intro wq hSw; skip; go_simp; try with_reducible rfl)
  simp only [Act.put, List.setIfInBounds_toArray, List.set_cons_zero, List.set_cons_succ]
  refine wpAnyH_take (i := 31) (oi := { dst := some 60, op := _, type := _, pos := _, after := _, guard := _ }) (v := ?v1_31) rfl (by kernel_rfl) (by kernel_rfl) (by kernel_rfl) (fun _ _ _ h => h) (Or.inl ⟨by rfl, ?hy1_31⟩) hHeld ?_
  case hy1_31 => (intro wq hSw; skip; go_simp; try with_reducible rfl)
  simp only [Act.put, List.setIfInBounds_toArray, List.set_cons_zero, List.set_cons_succ]
  refine wpAnyH_take (i := 32) (oi := { dst := some 61, op := _, type := _, pos := _, after := _, guard := _ }) (v := ?v1_32) rfl (by kernel_rfl) (by kernel_rfl) (by kernel_rfl) (fun _ _ _ h => h) (Or.inl ⟨by rfl, ?hy1_32⟩) hHeld ?_
  case hy1_32 => (intro wq hSw; skip; go_simp; try with_reducible rfl)
  simp only [Act.put, List.setIfInBounds_toArray, List.set_cons_zero, List.set_cons_succ]
  refine wpAnyH_ready (rs := [33]) (by kernel_rfl) (by simp) ?_
  refine AllReadyH.cons (o := { dst := some 0, op := _, type := _, pos := _, after := _, guard := _ }) rfl (fun K hK => ?_) AllReadyH.nil
  go_simp
  refine hK.out _ _ A7 (fun hHeld => ?_)
  clear hK K
  refine wpAnyH_done (by kernel_rfl) ?_ _
  go_wp2_with fail
  go_ret
  exact ⟨rfl, A7.bl⟩
end
section
open Go.RowKit
theorem neq_dat0 (u : World) : (binOp .neq 37 (.agg #[.int .i64 0, .int .i64 0, .int .i64 0]) (.agg #[.int .i64 0, .int .i64 0, .int .i64 0])).run Tryz.prog u = .ok (.bool false) u := by simp [go_sem]
end
section
open Go.RowKit

theorem all_bad2 {α : Type} {f : α → Bool} {l : List α} {k : Nat} {t : α} (h : l[k]? = some t) (hb : f t = false) : l.all f = false := by
  cases hA : l.all f
  · rfl
  · have := List.all_eq_true.1 hA t (List.mem_of_getElem? h)
    rw [hb] at this; cases this
theorem all_of2 {α : Type} {f : α → Bool} {l : List α} (h : ∀ j t, j < l.length → l[j]? = some t → f t = true) : l.all f = true :=
  List.all_eq_true.2 fun t ht => by
    obtain ⟨j, hj⟩ := List.getElem?_of_mem ht
    exact h j t (List.getElem?_eq_some_iff.1 hj).1 hj
set_option maxRecDepth 100000 in
theorem r27ids_any {v : Value} {xs : List ByteArray} {w : World} (h : TxAt w v xs) (hn : xs.length ≤ 1000000) : Calls Tryz.prog 29 #[v] w fun e w' => e = .returned (.bool (xs.all idn)) ∧ Below w.heap.size w w' := by
  obtain ⟨A, cap, rfl, _, _, a1⟩ := h
  have Q := Lib.hid a1
  clear a1
  go_enter Tryz.func29, Tryz.ntmps29
  go_wp2_with fail
  go_loopw [3] (fun i wr => ∃ k : Nat, k ≤ xs.length ∧ i = .int .i64 k ∧ (∀ j t, j < k → xs[j]? = some t → idn t = true) ∧ Below w.heap.size w wr) (fun i _ => xs.length - (intOf i).toNat)
  case atStart => exact ⟨0, Nat.zero_le _, rfl, fun j t h => absurd h (Nat.not_lt_zero _), Below.refl _ _⟩
  case round =>
    obtain ⟨k, hk, rfl, hp, hb⟩ := hrel
    have HP := Lib.hid hp
    clear hp
    by_cases hlt : k < xs.length
    · obtain ⟨s, hs⟩ : ∃ s, xs[k]? = some s := ⟨_, List.getElem?_eq_getElem hlt⟩
      obtain ⟨b1, o1, rfl, l1, g1⟩ := Q.out k s hs
      have k1 : wr.cell? ⟨b1, o1 + k, none⟩ = some (.string s) := by rw [hb.cell l1]; exact g1
      have HI := Lib.hid (fun u : World => r17id_any s u)
      have HB := Lib.hid hb
      have HS := Lib.hid hs
      clear hb hs g1 l1
      go_wp2_with fail
      refine (HI.out _).mono ?_
      rintro e u ⟨rfl, rfl⟩
      cases hq : idn s
      · have hq := Lib.hid hq
        go_wp2_with fail
        go_ret
        exact ⟨by rw [all_bad2 HS.out hq.out]; rfl, HB.out⟩
      have hq := Lib.hid hq
      go_wp2_with fail
      go_roundw
      case rel =>
        refine ⟨k + 1, by omega, by go_num, fun j t hj ht => ?_, HB.out⟩
        rcases Nat.lt_succ_iff_lt_or_eq.1 hj with h | rfl
        · exact HP.out j t h ht
        · have := HS.out; rw [this] at ht; cases ht; exact hq.out
      case measure => simp [intOf]; omega
    · obtain rfl : k = xs.length := by omega
      go_wp2_with fail
      go_ret
      exact ⟨by rw [all_of2 HP.out]; rfl, hb⟩
theorem okK_bad {yr : Int} {l : List Enz} {k : Nat} {z : Enz} (h : l[k]? = some z) (hb : okE yr z.e = false) : okK ⟨yr, l.map Enz.e⟩ = false := by
  unfold okK
  rw [Bool.and_eq_false_iff]
  exact .inr (all_bad2 (k := k) (t := z.e) (by rw [List.getElem?_map, h]; rfl) hb)
theorem okK_all {yr : Int} {l : List Enz} (hy : inT yr = true) (h : ∀ j z, j < l.length → l[j]? = some z → okE yr z.e = true) : okK ⟨yr, l.map Enz.e⟩ = true := by
  unfold okK
  rw [Bool.and_eq_true]
  refine ⟨hy, all_of2 fun j t hj ht => ?_⟩
  rw [List.getElem?_map] at ht
  obtain ⟨z, hz, rfl⟩ := Option.map_eq_some_iff.1 ht
  exact h j z (List.getElem?_eq_some_iff.1 hz).1 hz
theorem neq_dat1 {a b c : Int} (h : ¬ (a = 0 ∧ b = 0 ∧ c = 0)) (u : World) : (binOp .neq 37 (.agg #[.int .i64 a, .int .i64 b, .int .i64 c]) (.agg #[.int .i64 0, .int .i64 0, .int .i64 0])).run Tryz.prog u = .ok (.bool true) u := by
  by_cases h1 : a = 0 <;> by_cases h2 : b = 0 <;> by_cases h3 : c = 0
  · exact absurd ⟨h1, h2, h3⟩ h
  all_goals simp [go_sem, h1, h2, h3]
set_option maxRecDepth 100000 in
set_option maxHeartbeats 8000000 in
theorem r27prn_any {yr : Int} {v : Value} {l : List Enz} {w : World} (h : KlAt w v l) (hn : l.length ≤ 1000000) (hx : ∀ z ∈ l, z.e.co.length ≤ 1000000 ∧ z.e.om.length ≤ 1000000) :
    Calls Tryz.prog 13 #[.agg #[.int .i64 yr, v]] w fun e w' => e = .returned (.bool (okK ⟨yr, l.map Enz.e⟩)) ∧ Below w.heap.size w w' := by
  obtain ⟨A, cap, rfl, _, _, a1⟩ := h
  have Q := Lib.hid a1
  have HG := Lib.hid (fun (k : Nat) (z : Enz) (hk : l[k]? = some z) => hx z (List.mem_of_getElem? hk))
  have FB := Lib.hid (fun (k : Nat) (z : Enz) (hk : l[k]? = some z) (hb : okE yr z.e = false) => okK_bad hk hb)
  have hnl := hn
  clear hx hn a1
  have R0 := Lib.hid (heap_alloc_new w (.cells #[.int .i64 yr, .slice A l.length cap] 25))
  have B0 := Lib.hid (al1 w (.cells #[.int .i64 yr, .slice A l.length cap] 25))
  have KA := Lib.hid (fun (hy : inT yr = true) (h : ∀ j z, j < l.length → l[j]? = some z → okE yr z.e = true) => okK_all hy h)
  have KB : inT yr = false → okK ⟨yr, l.map Enz.e⟩ = false := fun h => by unfold okK; rw [Bool.and_eq_false_iff]; exact .inl h
  have KB := Lib.hid KB
  obtain ⟨W, hW⟩ : ∃ u, u = w.alloc (.cells #[.int .i64 yr, .slice A l.length cap] 25) := ⟨_, rfl⟩
  have g0 : (w.alloc (.cells #[.int .i64 yr, .slice A l.length cap] 25)).cell? ⟨w.heap.size, 0, none⟩ = some (.int .i64 yr) := by rw [cell_of_row _ _ _ _ _ _ R0.out]; rfl
  have HY := Lib.hid (fun u : World => r26in yr u)
  have HN := neq_dat0
  generalize okK ⟨yr, l.map Enz.e⟩ = ANS at *
  go_enter Tryz.func13, Tryz.ntmps13
  go_wp2_with fail
  refine (HY.out _).mono ?_
  rintro e u0 ⟨rfl, rfl⟩
  clear g0
  rw [← hW] at R0 B0
  cases hyr : inT yr
  · have hyr := Lib.hid hyr
    go_wp2_with fail
    go_ret
    first | exact ⟨by rw [KB.out hyr.out]; rfl, B0.out⟩ | exact ⟨by rw [KB.out hyr.out]; rfl, hW ▸ B0.out⟩
  have hyr := Lib.hid hyr
  go_wp2_with fail
  rw [← hW]
  clear hW
  go_loopw [3] (fun i wr => ∃ k : Nat, k ≤ l.length ∧ i = .int .i64 k ∧ (∀ j z, j < k → l[j]? = some z → okE yr z.e = true) ∧ Below W.heap.size W wr) (fun i _ => l.length - (intOf i).toNat)
  case atStart => exact ⟨0, Nat.zero_le _, rfl, fun j t h => absurd h (Nat.not_lt_zero _), Below.refl _ _⟩
  case round =>
    obtain ⟨k, hk, rfl, hp, hb⟩ := hrel
    have HP := Lib.hid hp
    clear hp
    have bc := below_on B0.out hb
    have r0 : wr.cell? ⟨w.heap.size, 0, none⟩ = some (.int .i64 yr) := by rw [cell_of_row _ _ _ _ _ _ (row_kept R0.out hb)]; rfl
    have r1 : wr.cell? ⟨w.heap.size, 1, none⟩ = some (.slice A l.length cap) := by rw [cell_of_row _ _ _ _ _ _ (row_kept R0.out hb)]; rfl
    by_cases hlt : k < l.length
    · obtain ⟨z, hz⟩ : ∃ z, l[k]? = some z := ⟨_, List.getElem?_eq_getElem hlt⟩
      obtain ⟨hx1, hx2⟩ := HG.out k z hz
      have FK := FB.out k z hz
      have NX : okE yr z.e = true → ∀ j z', j < k + 1 → l[j]? = some z' → okE yr z'.e = true := fun ho j t hj ht => by
        rcases Nat.lt_succ_iff_lt_or_eq.1 hj with h | rfl
        · exact HP.out j t h ht
        · rw [hz] at ht; cases ht; exact ho
      obtain ⟨⟨b1, o1, rfl, lt1, g1⟩, t1, t2⟩ := Q.out k z hz
      obtain ⟨⟨ey, em, ed, ewd, ese, ewk, eki, epr, erk, efy, efm, efd, eco, eom⟩, vc, vo⟩ := z
      simp only at FK NX hx1 hx2
      have FK := Lib.hid FK
      have NX := Lib.hid NX
      have g1 : ∀ j, j < 14 → wr.cell? ⟨b1, o1 + k * 14 + j, none⟩ = _ := fun j hj => (bc.cell lt1).trans (g1 j hj)
      have p0 := g1 0 (by omega)
      simp only [Enz.vals, List.getElem?_cons_zero, Nat.add_zero] at p0
      have p1 := g1 1 (by omega)
      simp only [Enz.vals, List.getElem?_cons_succ, List.getElem?_cons_zero] at p1
      have p2 := g1 2 (by omega)
      simp only [Enz.vals, List.getElem?_cons_succ, List.getElem?_cons_zero] at p2
      have p3 := g1 3 (by omega)
      simp only [Enz.vals, List.getElem?_cons_succ, List.getElem?_cons_zero] at p3
      have p4 := g1 4 (by omega)
      simp only [Enz.vals, List.getElem?_cons_succ, List.getElem?_cons_zero] at p4
      have p5 := g1 5 (by omega)
      simp only [Enz.vals, List.getElem?_cons_succ, List.getElem?_cons_zero] at p5
      have p6 := g1 6 (by omega)
      simp only [Enz.vals, List.getElem?_cons_succ, List.getElem?_cons_zero] at p6
      have p7 := g1 7 (by omega)
      simp only [Enz.vals, List.getElem?_cons_succ, List.getElem?_cons_zero] at p7
      have p8 := g1 8 (by omega)
      simp only [Enz.vals, List.getElem?_cons_succ, List.getElem?_cons_zero] at p8
      have p9 := g1 9 (by omega)
      simp only [Enz.vals, List.getElem?_cons_succ, List.getElem?_cons_zero] at p9
      have p10 := g1 10 (by omega)
      simp only [Enz.vals, List.getElem?_cons_succ, List.getElem?_cons_zero] at p10
      have p11 := g1 11 (by omega)
      simp only [Enz.vals, List.getElem?_cons_succ, List.getElem?_cons_zero] at p11
      have p12 := g1 12 (by omega)
      simp only [Enz.vals, List.getElem?_cons_succ, List.getElem?_cons_zero] at p12
      have p13 := g1 13 (by omega)
      simp only [Enz.vals, List.getElem?_cons_succ, List.getElem?_cons_zero] at p13
      obtain ⟨ac, kc, rfl, -⟩ := (show TxAt w vc eco from t1)
      obtain ⟨ao, ko, rfl, -⟩ := (show TxAt w vo eom from t2)
      have al := al1 wr (.cells #[.int .i64 ey, .int .i64 em, .int .i64 ed, .int .i64 ewd, .string ese, .int .i64 ewk, .int .i64 eki, .string epr, .int .i64 erk, .int .i64 efy, .int .i64 efm, .int .i64 efd, .slice ac eco.length kc, .slice ao eom.length ko] 40)
      have BA := Lib.hid (below_on hb al)
      have BX := Lib.hid (below_on bc al)
      have TC := Lib.hid (t1.on (below_on bc al))
      have TO := Lib.hid (t2.on (below_on bc al))
      have RE := Lib.hid (heap_alloc_new wr (.cells #[.int .i64 ey, .int .i64 em, .int .i64 ed, .int .i64 ewd, .string ese, .int .i64 ewk, .int .i64 eki, .string epr, .int .i64 erk, .int .i64 efy, .int .i64 efm, .int .i64 efd, .slice ac eco.length kc, .slice ao eom.length ko] 40))
      obtain ⟨q0, q1, q2, q3, q4, q5, q6, q7, q8, q9, q10, q11, q12, q13⟩ := row14 RE.out
      have Hm := Lib.hid (fun u : World => r26in em u)
      have Hd := Lib.hid (fun u : World => r26in ed u)
      have Hwk := Lib.hid (fun u : World => r26in ewk u)
      have Hrk := Lib.hid (fun u : World => r26in erk u)
      have Hfm := Lib.hid (fun u : World => r26in efm u)
      have Hfd := Lib.hid (fun u : World => r26in efd u)
      have Hse := Lib.hid (fun u : World => r17id_any ese u)
      have Hpr := Lib.hid (fun u : World => r17id_any epr u)
      have HC := Lib.hid (fun (u : World) (v : Value) (h : TxAt u v eco) => r27ids_any h hx1)
      have HM := Lib.hid (fun (u : World) (v : Value) (h : TxAt u v eom) => r27ids_any h hx2)
      clear g1 t1 t2 hz hx1 hx2 lt1 al
      have s0 : (wr.alloc (.cells #[.int .i64 ey, .int .i64 em, .int .i64 ed, .int .i64 ewd, .string ese, .int .i64 ewk, .int .i64 eki, .string epr, .int .i64 erk, .int .i64 efy, .int .i64 efm, .int .i64 efd, .slice ac eco.length kc, .slice ao eom.length ko] 40)).cell? ⟨w.heap.size, 0, none⟩ = some (.int .i64 yr) := by rw [cell_of_row _ _ _ _ _ _ (row_kept (row_kept R0.out hb) (al1 wr (.cells #[.int .i64 ey, .int .i64 em, .int .i64 ed, .int .i64 ewd, .string ese, .int .i64 ewk, .int .i64 eki, .string epr, .int .i64 erk, .int .i64 efy, .int .i64 efm, .int .i64 efd, .slice ac eco.length kc, .slice ao eom.length ko] 40)))]; rfl
      clear hb bc
      by_cases hy : ey = yr
      rotate_left
      · have cn : (ey != yr) = true := by simp [bne, beq_eq_false_iff_ne.2 hy]
        have hy := Lib.hid hy
        go_wp2_with fail
        go_ret
        exact ⟨by rw [FK.out (by simp [okE, hy.out])]; rfl, BX.out⟩
      subst hy
      go_wp2_with fail
      refine (Hm.out _).mono ?_
      rintro e u ⟨rfl, rfl⟩
      cases hm : inT em
      · have hm := Lib.hid hm
        go_wp2_with fail
        go_ret
        exact ⟨by rw [FK.out (by simp [okE, hm.out])]; rfl, BX.out⟩
      have hm := Lib.hid hm
      go_wp2_with fail
      refine (Hd.out _).mono ?_
      rintro e u ⟨rfl, rfl⟩
      cases hd : inT ed
      · have hd := Lib.hid hd
        go_wp2_with fail
        go_ret
        exact ⟨by rw [FK.out (by simp [okE, hd.out])]; rfl, BX.out⟩
      have hd := Lib.hid hd
      go_wp2_with fail
      refine (Hwk.out _).mono ?_
      rintro e u ⟨rfl, rfl⟩
      cases hwk : inT ewk
      · have hwk := Lib.hid hwk
        go_wp2_with fail
        go_ret
        exact ⟨by rw [FK.out (by simp [okE, hwk.out])]; rfl, BX.out⟩
      have hwk := Lib.hid hwk
      go_wp2_with fail
      refine (Hrk.out _).mono ?_
      rintro e u ⟨rfl, rfl⟩
      cases hrk : inT erk
      · have hrk := Lib.hid hrk
        go_wp2_with fail
        go_ret
        exact ⟨by rw [FK.out (by simp [okE, hrk.out])]; rfl, BX.out⟩
      have hrk := Lib.hid hrk
      by_cases d1 : ewd < 0
      · have x0 : decide (0 ≤ ewd) = false := by rw [decide_eq_false_iff_not]; omega
        have x0 := Lib.hid x0
        go_wp2_with fail
        go_ret
        exact ⟨by rw [FK.out (by unfold okE; simp only [x0.out, Bool.false_and, Bool.and_false])]; rfl, BX.out⟩
      by_cases d2 : 6 < ewd
      · have x0 : decide (ewd ≤ 6) = false := by rw [decide_eq_false_iff_not]; omega
        have x0 := Lib.hid x0
        go_wp2_with fail
        go_ret
        exact ⟨by rw [FK.out (by unfold okE; simp only [x0.out, Bool.false_and, Bool.and_false])]; rfl, BX.out⟩
      by_cases d3 : eki < 1
      · have x0 : decide (1 ≤ eki) = false := by rw [decide_eq_false_iff_not]; omega
        have x0 := Lib.hid x0
        go_wp2_with fail
        go_ret
        exact ⟨by rw [FK.out (by unfold okE; simp only [x0.out, Bool.false_and, Bool.and_false])]; rfl, BX.out⟩
      by_cases d4 : 3 < eki
      · have x0 : decide (eki ≤ 3) = false := by rw [decide_eq_false_iff_not]; omega
        have x0 := Lib.hid x0
        go_wp2_with fail
        go_ret
        exact ⟨by rw [FK.out (by unfold okE; simp only [x0.out, Bool.false_and, Bool.and_false])]; rfl, BX.out⟩
      by_cases c3 : eki = 3
      · subst c3
        by_cases hfy : efy = ey
        rotate_left
        · have cf : (efy != ey) = true := by simp [bne, beq_eq_false_iff_ne.2 hfy]
          have hfy := Lib.hid hfy
          go_wp2_with fail
          go_ret
          exact ⟨by rw [FK.out (by simp [okE, hfy.out])]; rfl, BX.out⟩
        subst hfy
        go_wp2_with fail
        refine (Hfm.out _).mono ?_
        rintro e u ⟨rfl, rfl⟩
        cases hfm : inT efm
        · have hfm := Lib.hid hfm
          go_wp2_with fail
          go_ret
          exact ⟨by rw [FK.out (by simp [okE, hfm.out])]; rfl, BX.out⟩
        have hfm := Lib.hid hfm
        go_wp2_with fail
        refine (Hfd.out _).mono ?_
        rintro e u ⟨rfl, rfl⟩
        cases hfd : inT efd
        · have hfd := Lib.hid hfd
          go_wp2_with fail
          go_ret
          exact ⟨by rw [FK.out (by simp [okE, hfd.out])]; rfl, BX.out⟩
        have hfd := Lib.hid hfd
        go_wp2_with fail
        refine (Hse.out _).mono ?_
        rintro e u ⟨rfl, rfl⟩
        cases hse : idn ese
        · have hse := Lib.hid hse
          go_wp2_with fail
          go_ret
          exact ⟨by rw [FK.out (by simp [okE, hse.out])]; rfl, BX.out⟩
        have hse := Lib.hid hse
        go_wp2_with fail
        refine (Hpr.out _).mono ?_
        rintro e u ⟨rfl, rfl⟩
        cases hpr : idn epr
        · have hpr := Lib.hid hpr
          go_wp2_with fail
          go_ret
          exact ⟨by rw [FK.out (by simp [okE, hpr.out])]; rfl, BX.out⟩
        have hpr := Lib.hid hpr
        go_wp2_with fail
        refine (HC.out _ _ TC.out).mono ?_
        rintro e u6 ⟨rfl, b6⟩
        clear p0 q0 p1 q1 p2 q2 p3 q3 p4 q4 p5 q5 p6 q6 p7 q7 p8 q8 p9 q9 p10 q10 p11 q11 p12 q12 p13 q13 s0 r0 r1
        have q13 : u6.cell? ⟨wr.heap.size, 13, none⟩ = some (.slice ao eom.length ko) := by rw [cell_of_row _ _ _ _ _ _ (row_kept RE.out b6)]; rfl
        have TO6 := TO.out.on b6
        have BA := Lib.hid (below_on BA.out b6)
        have BX := Lib.hid (below_on BX.out b6)
        clear b6
        cases hco : eco.all idn
        · have hco := Lib.hid hco
          go_wp2_with fail
          go_ret
          exact ⟨by rw [FK.out (by simp only [okE, hco.out, Bool.false_and, Bool.and_false])]; rfl, BX.out⟩
        have hco := Lib.hid hco
        go_wp2_with fail
        refine (HM.out _ _ TO6).mono ?_
        rintro e u7 ⟨rfl, b7⟩
        have BA := Lib.hid (below_on BA.out b7)
        have BX := Lib.hid (below_on BX.out b7)
        clear b7
        cases hom : eom.all idn
        · have hom := Lib.hid hom
          go_wp2_with fail
          go_ret
          exact ⟨by rw [FK.out (by simp only [okE, hom.out, Bool.and_false])]; rfl, BX.out⟩
        have hom := Lib.hid hom
        go_wp2_with fail
        go_roundw
        case rel => exact ⟨k + 1, by omega, by go_num, NX.out (by unfold okE; simp only [Bool.and_eq_true, decide_eq_true_eq]; refine ⟨⟨True.intro, hm.out, hd.out, hwk.out, hrk.out, by omega, by omega, by omega, by omega⟩, by simp [hfm.out, hfd.out], hse.out, hpr.out, hco.out, hom.out⟩), BA.out⟩
        case measure => simp [intOf]; omega
      · have cb : (eki == 3) = false := beq_eq_false_iff_ne.2 c3
        have cn : (eki != 3) = true := by simp [bne, cb]
        by_cases hz0 : efy = 0 ∧ efm = 0 ∧ efd = 0
        rotate_left
        · have HN1 := fun u : World => neq_dat1 hz0 u
          have hz0 := Lib.hid hz0
          have c3h := Lib.hid c3
          go_wp2_with fail
          go_ret
          exact ⟨by rw [FK.out (by unfold okE; rw [if_neg c3h.out]; have := hz0.out; simp only [← Bool.decide_and]; rw [decide_eq_false this]; simp only [Bool.false_and, Bool.and_false])]; rfl, BX.out⟩
        obtain ⟨rfl, rfl, rfl⟩ := hz0
        go_wp2_with fail
        refine (Hse.out _).mono ?_
        rintro e u ⟨rfl, rfl⟩
        cases hse : idn ese
        · have hse := Lib.hid hse
          go_wp2_with fail
          go_ret
          exact ⟨by rw [FK.out (by simp [okE, hse.out])]; rfl, BX.out⟩
        have hse := Lib.hid hse
        go_wp2_with fail
        refine (Hpr.out _).mono ?_
        rintro e u ⟨rfl, rfl⟩
        cases hpr : idn epr
        · have hpr := Lib.hid hpr
          go_wp2_with fail
          go_ret
          exact ⟨by rw [FK.out (by simp [okE, hpr.out])]; rfl, BX.out⟩
        have hpr := Lib.hid hpr
        go_wp2_with fail
        refine (HC.out _ _ TC.out).mono ?_
        rintro e u6 ⟨rfl, b6⟩
        clear p0 q0 p1 q1 p2 q2 p3 q3 p4 q4 p5 q5 p6 q6 p7 q7 p8 q8 p9 q9 p10 q10 p11 q11 p12 q12 p13 q13 s0 r0 r1
        have q13 : u6.cell? ⟨wr.heap.size, 13, none⟩ = some (.slice ao eom.length ko) := by rw [cell_of_row _ _ _ _ _ _ (row_kept RE.out b6)]; rfl
        have TO6 := TO.out.on b6
        have BA := Lib.hid (below_on BA.out b6)
        have BX := Lib.hid (below_on BX.out b6)
        clear b6
        cases hco : eco.all idn
        · have hco := Lib.hid hco
          go_wp2_with fail
          go_ret
          exact ⟨by rw [FK.out (by simp only [okE, hco.out, Bool.false_and, Bool.and_false])]; rfl, BX.out⟩
        have hco := Lib.hid hco
        go_wp2_with fail
        refine (HM.out _ _ TO6).mono ?_
        rintro e u7 ⟨rfl, b7⟩
        have BA := Lib.hid (below_on BA.out b7)
        have BX := Lib.hid (below_on BX.out b7)
        clear b7
        cases hom : eom.all idn
        · have hom := Lib.hid hom
          go_wp2_with fail
          go_ret
          exact ⟨by rw [FK.out (by simp only [okE, hom.out, Bool.and_false])]; rfl, BX.out⟩
        have hom := Lib.hid hom
        go_wp2_with fail
        go_roundw
        case rel => exact ⟨k + 1, by omega, by go_num, NX.out (by unfold okE; simp only [Bool.and_eq_true, decide_eq_true_eq]; refine ⟨⟨True.intro, hm.out, hd.out, hwk.out, hrk.out, by omega, by omega, by omega, by omega⟩, by rw [if_neg c3]; rfl, hse.out, hpr.out, hco.out, hom.out⟩), BA.out⟩
        case measure => simp [intOf]; omega
    · obtain rfl : k = l.length := by omega
      go_wp2_with fail
      go_ret
      exact ⟨by rw [KA.out hyr.out HP.out]; rfl, bc⟩
end
section
open Go.ChangeShapes Go.WideShapes Go.RowKit Go.Joins Go.Deep

section
variable {H : Type} {enc : TypeId × Value → H} {P : Program} {w : World} {base : Nat} {spare : Nat → Bool} {held : Bool}
theorem lst3 {l : List Value} (h : l.length = 3) : ∃ a b c, l = [a, b, c] := by
  match l, h with
  | [a, b, c], _ => exact ⟨a, b, c, rfl⟩
theorem lst10 {α : Type} {l : List α} (h : l.length = 10) : ∃ a b c d e f g i j k, l = [a, b, c, d, e, f, g, i, j, k] := by
  match l, h with
  | [a, b, c, d, e, f, g, i, j, k], _ => exact ⟨a, b, c, d, e, f, g, i, j, k, rfl⟩
theorem lst14 {l : List Value} (h : l.length = 14) : ∃ c0 c1 c2 c3 c4 c5 c6 c7 c8 c9 c10 c11 c12 c13, l = [c0, c1, c2, c3, c4, c5, c6, c7, c8, c9, c10, c11, c12, c13] := by
  match l, h with
  | [c0, c1, c2, c3, c4, c5, c6, c7, c8, c9, c10, c11, c12, c13], _ => exact ⟨c0, c1, c2, c3, c4, c5, c6, c7, c8, c9, c10, c11, c12, c13, rfl⟩
theorem spot_no {a : Addr} {v : Value} (h : w.cell? a = some v) : a.spot = none := by
  unfold World.cell? at h
  split at h
  · cases hs : a.spot with
    | none => rfl
    | some x => rw [hs] at h; simp at h
  · cases h
theorem add_no (b o n : Nat) : (⟨b, o, none⟩ : Addr).add n = ⟨b, o + n, none⟩ := by
  unfold Addr.add
  split
  · rename_i h; subst h; rfl
  · rfl
/-- A slice of things of several cells each, opened. -/
theorem trod_many {α : Type} (z0 : α) (nc : Nat) (h1c : 0 < nc) (V : α → List Value) (G : α → Prop) {t e fuel : Nat} {cs : List Value} {x : DataW H × List MemPlace} (ht : P.underlying t = some (.slice e)) (hC : P.cellsOf e = nc) (hV : ∀ z, (V z).length = nc)
    (hI : ∀ (n : Nat) (cs' : List Value) (y : DataW H × List MemPlace), DataW.trod enc P w base spare held n e cs' = some y → ∃ z : α, cs' = V z ∧ G z) (h : DataW.trod enc P w base spare held fuel t cs = some x) :
    ∃ (A : Option Addr) (cap : Nat) (zs : List α), cs = [.slice A zs.length cap] ∧ zs.length ≤ cap ∧ cap ≤ maxLen ∧ ∀ (i : Nat) (z : α), zs[i]? = some z → G z ∧ ∃ b o, A = some ⟨b, o, none⟩ ∧ b < w.heap.size ∧ ∀ j, j < nc → w.cell? ⟨b, o + i * nc + j, none⟩ = (V z)[j]? := by
  rcases open_slice ht h with ⟨rfl, _⟩ | ⟨a, len, cap, m, n, D, Pl, rfl, hb, hl, hm, hmm, _, hall⟩
  · exact ⟨none, 0, [], rfl, Nat.le_refl _, Nat.zero_le _, fun i z hi => by simp at hi⟩
  · have hle : len ≤ m := by rw [hmm]; split <;> omega
    have one : ∀ i, i < len → ∃ z : α, G z ∧ ∀ j, j < nc → w.cell? ((a.add (i * nc)).add j) = (V z)[j]? := by
      intro i hi
      obtain ⟨cs', h1, h2⟩ := hall i (by omega)
      rw [hC] at h1
      obtain ⟨z, e1, e2⟩ := hI _ _ _ h2
      obtain ⟨_, _, h4⟩ := World.cells?_some h1
      exact ⟨z, e2, fun j hj => by rw [h4 j hj, e1]⟩
    have each : ∀ i, ∃ z : α, i < len → G z ∧ ∀ j, j < nc → w.cell? ((a.add (i * nc)).add j) = (V z)[j]? := fun i => by
      by_cases hi : i < len
      · obtain ⟨z, hz⟩ := one i hi
        exact ⟨z, fun _ => hz⟩
      · exact ⟨z0, fun h => absurd h hi⟩
    have zz : ∃ f : Nat → α, ∀ i, i < len → G (f i) ∧ ∀ j, j < nc → w.cell? ((a.add (i * nc)).add j) = (V (f i))[j]? := ⟨fun i => (each i).choose, fun i => (each i).choose_spec⟩
    obtain ⟨f, hf⟩ := zz
    refine ⟨some a, cap, (List.range len).map f, by simp, by simpa using hl, hm, fun i t hi => ?_⟩
    have hil : i < len := by
      have := (List.getElem?_eq_some_iff.1 hi).1
      simpa using this
    have ht : t = f i := by
      rw [List.getElem?_map, List.getElem?_range hil] at hi
      exact (Option.some.inj hi).symm
    have h0 : w.cell? a = (V (f 0))[0]? := by
      have := (hf 0 (by omega)).2 0 h1c
      rw [Nat.zero_mul] at this
      exact this
    obtain ⟨u0, hu0⟩ : ∃ u, (V (f 0))[0]? = some u := ⟨_, List.getElem?_eq_getElem (by rw [hV]; exact h1c)⟩
    have hs : a.spot = none := spot_no (h0.trans hu0)
    obtain ⟨ab, ao, asp⟩ := a
    obtain rfl : asp = none := hs
    refine ⟨ht ▸ (hf i hil).1, ab, ao, rfl, ?_, fun j hj => ?_⟩
    · exact World.block_lt_of_cell? w _ (h0.trans hu0)
    · have := (hf i hil).2 j hj
      rw [add_no, add_no] at this
      rw [ht]; exact this
end
section
variable {H : Type} {enc : TypeId × Value → H} {w : World} {base : Nat} {spare : Nat → Bool} {held : Bool}
set_option maxRecDepth 100000 in
theorem trod_date {n : Nat} {cs : List Value} {x : DataW H × List MemPlace} (h : DataW.trod enc Tryz.prog w base spare held n 37 cs = some x) : ∃ y m d : Int, cs = [.int .i64 y, .int .i64 m, .int .i64 d] := by
  obtain ⟨xs, n, _, _, hlen, hxl, hg⟩ := DataW.trod_struct Tryz.underlying37 h
  obtain ⟨c0, c1, c2, rfl⟩ := lst3 (hlen.trans (by kernel_rfl))
  have e0 : DataW.trod enc Tryz.prog w base spare held n 3 [c0] = xs[0]? := hg 0 _ rfl
  have e1 : DataW.trod enc Tryz.prog w base spare held n 3 [c1] = xs[1]? := hg 1 _ rfl
  have e2 : DataW.trod enc Tryz.prog w base spare held n 3 [c2] = xs[2]? := hg 2 _ rfl
  have hx : xs.length = 3 := hxl
  obtain ⟨y, rfl, _⟩ := one_int Tryz.underlying3 e0 (List.getElem?_eq_getElem (by omega))
  obtain ⟨m, rfl, _⟩ := one_int Tryz.underlying3 e1 (List.getElem?_eq_getElem (by omega))
  obtain ⟨d, rfl, _⟩ := one_int Tryz.underlying3 e2 (List.getElem?_eq_getElem (by omega))
  exact ⟨y, m, d, rfl⟩
set_option maxRecDepth 100000 in
theorem trod_txs {n : Nat} {cs : List Value} {x : DataW H × List MemPlace} (h : DataW.trod enc Tryz.prog w base spare held n 38 cs = some x) : ∃ v xs, cs = [v] ∧ TxAt w v xs := by
  obtain ⟨A, cap, zs, rfl, h1, h2, h3⟩ := trod_many (α := ByteArray) ByteArray.empty 1 (by omega) (fun s => [.string s]) (fun _ => True) Tryz.underlying38 (by kernel_rfl) (fun _ => rfl) (fun n cs' y hy => by
    obtain ⟨xs, n, hlen⟩ : ∃ s, cs' = [Value.string s] ∧ True := by
      obtain ⟨s, es, _, _⟩ := DataW.trod_string Tryz.underlying9 hy
      exact ⟨s, es, trivial⟩
    exact ⟨xs, n, trivial⟩) h
  refine ⟨_, zs, rfl, A, cap, rfl, h1, h2, fun i s hi => ?_⟩
  obtain ⟨_, b, o, e1, e2, e3⟩ := h3 i s hi
  exact ⟨b, o, e1, e2, by have := e3 0 (by omega); simpa using this⟩
set_option maxRecDepth 100000 in
theorem trod_ent (n : Nat) (cs : List Value) (x : DataW H × List MemPlace) (h : DataW.trod enc Tryz.prog w base spare held n 40 cs = some x) : ∃ z : Enz, cs = z.vals ∧ TxAt w z.vc z.e.co ∧ TxAt w z.vo z.e.om := by
  obtain ⟨xs, n, _, _, hlen, hxl, hg⟩ := DataW.trod_struct Tryz.underlying40 h
  obtain ⟨c0, c1, c2, c3, c4, c5, c6, c7, c8, c9, c10, c11, c12, c13, rfl⟩ := lst14 (hlen.trans (by kernel_rfl))
  obtain ⟨y0, y1, y2, y3, y4, y5, y6, y7, y8, y9, rfl⟩ := lst10 (show xs.length = 10 from hxl)
  have e0 : DataW.trod enc Tryz.prog w base spare held n 37 (([c0, c1, c2, c3, c4, c5, c6, c7, c8, c9, c10, c11, c12, c13].drop 0).take (Tryz.prog.cellsOf 37)) = some y0 := hg 0 _ rfl
  rw [show Tryz.prog.cellsOf 37 = 3 by kernel_rfl] at e0
  have e0 : DataW.trod enc Tryz.prog w base spare held n 37 [c0, c1, c2] = some y0 := e0
  have e1 : DataW.trod enc Tryz.prog w base spare held n 3 (([c0, c1, c2, c3, c4, c5, c6, c7, c8, c9, c10, c11, c12, c13].drop 3).take (Tryz.prog.cellsOf 3)) = some y1 := hg 1 _ rfl
  rw [show Tryz.prog.cellsOf 3 = 1 by kernel_rfl] at e1
  have e1 : DataW.trod enc Tryz.prog w base spare held n 3 [c3] = some y1 := e1
  have e2 : DataW.trod enc Tryz.prog w base spare held n 9 (([c0, c1, c2, c3, c4, c5, c6, c7, c8, c9, c10, c11, c12, c13].drop 4).take (Tryz.prog.cellsOf 9)) = some y2 := hg 2 _ rfl
  rw [show Tryz.prog.cellsOf 9 = 1 by kernel_rfl] at e2
  have e2 : DataW.trod enc Tryz.prog w base spare held n 9 [c4] = some y2 := e2
  have e3 : DataW.trod enc Tryz.prog w base spare held n 3 (([c0, c1, c2, c3, c4, c5, c6, c7, c8, c9, c10, c11, c12, c13].drop 5).take (Tryz.prog.cellsOf 3)) = some y3 := hg 3 _ rfl
  rw [show Tryz.prog.cellsOf 3 = 1 by kernel_rfl] at e3
  have e3 : DataW.trod enc Tryz.prog w base spare held n 3 [c5] = some y3 := e3
  have e4 : DataW.trod enc Tryz.prog w base spare held n 3 (([c0, c1, c2, c3, c4, c5, c6, c7, c8, c9, c10, c11, c12, c13].drop 6).take (Tryz.prog.cellsOf 3)) = some y4 := hg 4 _ rfl
  rw [show Tryz.prog.cellsOf 3 = 1 by kernel_rfl] at e4
  have e4 : DataW.trod enc Tryz.prog w base spare held n 3 [c6] = some y4 := e4
  have e5 : DataW.trod enc Tryz.prog w base spare held n 9 (([c0, c1, c2, c3, c4, c5, c6, c7, c8, c9, c10, c11, c12, c13].drop 7).take (Tryz.prog.cellsOf 9)) = some y5 := hg 5 _ rfl
  rw [show Tryz.prog.cellsOf 9 = 1 by kernel_rfl] at e5
  have e5 : DataW.trod enc Tryz.prog w base spare held n 9 [c7] = some y5 := e5
  have e6 : DataW.trod enc Tryz.prog w base spare held n 3 (([c0, c1, c2, c3, c4, c5, c6, c7, c8, c9, c10, c11, c12, c13].drop 8).take (Tryz.prog.cellsOf 3)) = some y6 := hg 6 _ rfl
  rw [show Tryz.prog.cellsOf 3 = 1 by kernel_rfl] at e6
  have e6 : DataW.trod enc Tryz.prog w base spare held n 3 [c8] = some y6 := e6
  have e7 : DataW.trod enc Tryz.prog w base spare held n 37 (([c0, c1, c2, c3, c4, c5, c6, c7, c8, c9, c10, c11, c12, c13].drop 9).take (Tryz.prog.cellsOf 37)) = some y7 := hg 7 _ rfl
  rw [show Tryz.prog.cellsOf 37 = 3 by kernel_rfl] at e7
  have e7 : DataW.trod enc Tryz.prog w base spare held n 37 [c9, c10, c11] = some y7 := e7
  have e8 : DataW.trod enc Tryz.prog w base spare held n 38 (([c0, c1, c2, c3, c4, c5, c6, c7, c8, c9, c10, c11, c12, c13].drop 12).take (Tryz.prog.cellsOf 38)) = some y8 := hg 8 _ rfl
  rw [show Tryz.prog.cellsOf 38 = 1 by kernel_rfl] at e8
  have e8 : DataW.trod enc Tryz.prog w base spare held n 38 [c12] = some y8 := e8
  have e9 : DataW.trod enc Tryz.prog w base spare held n 38 (([c0, c1, c2, c3, c4, c5, c6, c7, c8, c9, c10, c11, c12, c13].drop 13).take (Tryz.prog.cellsOf 38)) = some y9 := hg 9 _ rfl
  rw [show Tryz.prog.cellsOf 38 = 1 by kernel_rfl] at e9
  have e9 : DataW.trod enc Tryz.prog w base spare held n 38 [c13] = some y9 := e9
  obtain ⟨y, m, d, q0⟩ := trod_date e0
  obtain ⟨fy, fm, fd, q7⟩ := trod_date e7
  obtain ⟨wd, rfl, _⟩ := one_int Tryz.underlying3 e1 rfl
  obtain ⟨wk, rfl, _⟩ := one_int Tryz.underlying3 e3 rfl
  obtain ⟨ki, rfl, _⟩ := one_int Tryz.underlying3 e4 rfl
  obtain ⟨rk, rfl, _⟩ := one_int Tryz.underlying3 e6 rfl
  obtain ⟨se, q2, _, _⟩ := DataW.trod_string Tryz.underlying9 e2
  obtain ⟨pr, q5, _, _⟩ := DataW.trod_string Tryz.underlying9 e5
  obtain ⟨vc, co, q8, t1⟩ := trod_txs e8
  obtain ⟨vo, om, q9, t2⟩ := trod_txs e9
  have r0 : [c0, c1, c2] = [Value.int .i64 y, .int .i64 m, .int .i64 d] := q0
  have r7 : [c9, c10, c11] = [Value.int .i64 fy, .int .i64 fm, .int .i64 fd] := q7
  have r2 : [c4] = [Value.string se] := q2
  have r5 : [c7] = [Value.string pr] := q5
  have r8 : [c12] = [vc] := q8
  have r9 : [c13] = [vo] := q9
  clear q0 q7 q2 q5 q8 q9
  simp only [List.cons.injEq, and_true] at r0 r7 r2 r5 r8 r9
  obtain ⟨rfl, rfl, rfl⟩ := r0
  obtain ⟨rfl, rfl, rfl⟩ := r7
  subst r2 r5 r8 r9
  exact ⟨⟨⟨y, m, d, wd, se, wk, ki, pr, rk, fy, fm, fd, co, om⟩, _, _⟩, rfl, t1, t2⟩
/-- A calendar, and one that came in. -/
structure Kz where
  y : Int
  l : List Enz
def KalAt (w : World) (v : Value) (z : Kz) : Prop := ∃ vs, v = .agg #[.int .i64 z.y, vs] ∧ KlAt w vs z.l
set_option maxRecDepth 100000 in
theorem trod_ents {n : Nat} {cs : List Value} {x : DataW H × List MemPlace} (h : DataW.trod enc Tryz.prog w base spare held n 23 cs = some x) : ∃ v l, cs = [v] ∧ KlAt w v l := by
  obtain ⟨A, cap, zs, rfl, h1, h2, h3⟩ := trod_many (α := Enz) ⟨⟨0, 0, 0, 0, ByteArray.empty, 0, 0, ByteArray.empty, 0, 0, 0, 0, [], []⟩, .slice none 0 0, .slice none 0 0⟩ 14 (by omega) Enz.vals (fun z => TxAt w z.vc z.e.co ∧ TxAt w z.vo z.e.om) Tryz.underlying23 (by kernel_rfl) (fun _ => rfl) trod_ent h
  refine ⟨_, zs, rfl, A, cap, rfl, h1, h2, fun i z hi => ?_⟩
  obtain ⟨⟨g1, g2⟩, e⟩ := h3 i z hi
  exact ⟨e, g1, g2⟩
set_option maxRecDepth 100000 in
theorem open_kal {r : Reach} {b0 : Nat} {v : Value} {d : DataW H} {p : List MemPlace} (hv : Value.okWide Tryz.prog w r b0 25 v) (h : DataW.Trod enc Tryz.prog w base spare held 25 v d p) : ∃ z : Kz, KalAt w v z := by
  obtain ⟨v0, v1, y0, y1, n, rfl, _, _, h0, h1⟩ := open_agg2 Tryz.underlying25 (by kernel_rfl) (show Tryz.prog.cellsOf 25 = 2 by kernel_rfl) hv h
  obtain ⟨f, rfl, wf⟩ := one_int Tryz.underlying3 h0 rfl
  obtain ⟨vs, l, e1, s1⟩ := trod_ents h1
  simp only [List.cons.injEq, and_true] at e1
  subst e1
  exact ⟨⟨f, l⟩, _, rfl, s1⟩
end
end
section
open Go.RowKit

def sumE : List Ent → Nat
  | [] => 0
  | e :: l => e.co.length + e.om.length + sumE l
theorem sumE_take : ∀ (l : List Enz) (k : Nat) (z : Enz), l[k]? = some z → sumE ((l.take (k + 1)).map Enz.e) = sumE ((l.take k).map Enz.e) + (z.e.co.length + z.e.om.length)
  | [], k, z, h => by simp at h
  | x :: l, 0, z, h => by
    obtain rfl : x = z := by simpa using h
    simp [sumE]
  | x :: l, k + 1, z, h => by
    have := sumE_take l k z (by simpa using h)
    simp only [List.take_succ_cons, List.map_cons, sumE] at this ⊢
    omega
theorem sumE_mem : ∀ (l : List Enz) (z : Enz), z ∈ l → z.e.co.length + z.e.om.length ≤ sumE (l.map Enz.e)
  | x :: l, z, h => by
    rw [List.map_cons]
    show _ ≤ x.e.co.length + x.e.om.length + sumE (l.map Enz.e)
    rcases List.mem_cons.1 h with rfl | h
    · omega
    · have := sumE_mem l z h; omega
set_option maxRecDepth 100000 in
theorem c27few {yr : Int} {A : Option Addr} {c : Nat} {l : List Enz} {w : World} (h : KlAt w (.slice A l.length c) l) : Calls Tryz.prog 12 #[.agg #[.int .i64 yr, .slice A l.length c]] w fun e w' => (e = .returned (.bool true) ∧ (l.length ≤ 400 ∧ sumE (l.map Enz.e) ≤ 500) ∨ e = .returned (.bool false)) ∧ Below w.heap.size w w' := by
  have R0 := Lib.hid (heap_alloc_new w (.cells #[.int .i64 yr, .slice A l.length c] 25))
  have B0 := Lib.hid (al1 w (.cells #[.int .i64 yr, .slice A l.length c] 25))
  have g1 : (w.alloc (.cells #[.int .i64 yr, .slice A l.length c] 25)).cell? ⟨w.heap.size, 1, none⟩ = some (.slice A l.length c) := by rw [cell_of_row _ _ _ _ _ _ R0.out]; rfl
  obtain ⟨A', cap, e0, _, _, a1⟩ := h
  injection e0 with e1 e2 e3
  subst e1 e3
  have Q := Lib.hid a1
  clear a1 e2
  by_cases hl : (400 : Int) < (l.length : Int)
  · go_enter Tryz.func12, Tryz.ntmps12
    go_wp2_with fail
    go_ret
    first | exact ⟨.inr (rfl), B0.out⟩ | exact ⟨.inr (ret_bool (by simp)), B0.out⟩
  have hl' : l.length ≤ 400 := by omega
  go_enter Tryz.func12, Tryz.ntmps12
  go_wp2_with fail
  obtain ⟨W, hW⟩ : ∃ u, u = w.alloc (.cells #[.int .i64 yr, .slice A l.length c] 25) := ⟨_, rfl⟩
  rw [← hW] at R0 B0
  rw [← hW]
  clear hW g1
  go_loopw [3, 4] (fun n i wr => ∃ k : Nat, k ≤ l.length ∧ i = .int .i64 k ∧ n = .int .i64 (sumE ((l.take k).map Enz.e)) ∧ sumE ((l.take k).map Enz.e) ≤ 200 * k ∧ Below W.heap.size W wr) (fun _ i _ => l.length - (intOf i).toNat)
  case atStart => exact ⟨0, Nat.zero_le _, rfl, rfl, Nat.le_refl _, Below.refl _ _⟩
  case round =>
    obtain ⟨k, hk, rfl, rfl, hs, hb⟩ := hrel
    have bc := below_on B0.out hb
    have g1 : wr.cell? ⟨w.heap.size, 1, none⟩ = some (.slice A l.length c) := by rw [cell_of_row _ _ _ _ _ _ (row_kept R0.out hb)]; rfl
    by_cases hlt : k < l.length
    · obtain ⟨z, hz⟩ : ∃ z, l[k]? = some z := ⟨_, List.getElem?_eq_getElem hlt⟩
      obtain ⟨⟨b1, o1, rfl, lt1, f1⟩, t1, t2⟩ := Q.out k z hz
      have hst := sumE_take l k z hz
      obtain ⟨⟨ey, em, ed, ewd, ese, ewk, eki, epr, erk, efy, efm, efd, eco, eom⟩, vc, vo⟩ := z
      have p12 := (bc.cell lt1).trans (f1 12 (by omega))
      have p13 := (bc.cell lt1).trans (f1 13 (by omega))
      simp only [Enz.vals, List.getElem?_cons_succ, List.getElem?_cons_zero] at p12 p13
      simp only at hst
      obtain ⟨ac, kc, rfl, -⟩ := (show TxAt _ vc eco from t1)
      obtain ⟨ao, ko, rfl, -⟩ := (show TxAt _ vo eom from t2)
      clear f1 t1 t2 hz lt1
      generalize sumE ((l.take k).map Enz.e) = s at *
      by_cases c1 : (100 : Int) < (eco.length : Int)
      · clear hst
        go_wp2_with fail
        go_ret
        first | exact ⟨.inr (rfl), bc⟩ | exact ⟨.inr (ret_bool (by simp)), bc⟩
      by_cases c2 : (100 : Int) < (eom.length : Int)
      · clear hst
        go_wp2_with fail
        go_ret
        first | exact ⟨.inr (rfl), bc⟩ | exact ⟨.inr (ret_bool (by simp)), bc⟩
      have hw1 : IntKind.i64.wrap ((s : Int) + (eco.length : Int)) = (s : Int) + (eco.length : Int) := by rw [IntKind.wrap_i64]; omega
      have hw2 : IntKind.i64.wrap ((s : Int) + (eco.length : Int) + (eom.length : Int)) = (s : Int) + (eco.length : Int) + (eom.length : Int) := by rw [IntKind.wrap_i64]; omega
      go_wp2_with fail
      go_region
      go_wp2_with fail
      go_roundw
      case rel => exact ⟨k + 1, by omega, by go_num, by rw [hst]; congr 1; omega, by omega, below_dn hb 1⟩
      case measure => simp [intOf]; omega
    · obtain rfl : k = l.length := by omega
      rw [List.take_length] at hs ⊢
      by_cases hs5 : ((sumE (l.map Enz.e) : Nat) : Int) ≤ 500
      · have fin : l.length ≤ 400 ∧ sumE (l.map Enz.e) ≤ 500 := ⟨hl', by omega⟩
        have fin := Lib.hid fin
        go_wp2_with fail
        go_ret
        first | exact ⟨.inl ⟨rfl, fin.out⟩, bc⟩ | exact ⟨.inl ⟨ret_bool (by simp), fin.out⟩, bc⟩
      · have hs6 : ¬ ((sumE (l.map Enz.e) : Nat) : Int) ≤ 500 := hs5
        go_wp2_with fail
        go_ret
        first | exact ⟨.inr (rfl), bc⟩ | exact ⟨.inr (ret_bool (by simp)), bc⟩

/-! sizes -/
theorem txs2_le {w : ByteArray} (hw : w.size ≤ 9) : ∀ {l : List ByteArray}, (∀ s ∈ l, idn s = true) → (txs2 w l).size ≤ 49 * l.length
  | [], _ => Nat.zero_le _
  | s :: l, h => by
    have h1 := idn_size (h s (by simp))
    have h2 := txs2_le hw fun s hs => h s (List.mem_cons_of_mem _ hs)
    show (w ++ (s ++ txs2 w l)).size ≤ _
    rw [ByteArray.size_append, ByteArray.size_append, List.length_cons]; omega
theorem nm_le {x : Int} (h1 : 0 ≤ x) (h2 : x ≤ 6) : (nm x).size ≤ 9 := by
  obtain rfl | rfl | rfl | rfl | rfl | rfl | rfl : x = 0 ∨ x = 1 ∨ x = 2 ∨ x = 3 ∨ x = 4 ∨ x = 5 ∨ x = 6 := by omega
  all_goals decide
theorem txKi_le (k : Int) : (txKi k).size ≤ 8 := by
  unfold txKi; split
  · decide
  split <;> decide
theorem okE_all {y : Int} {e : Ent} (h : okE y e = true) : inT e.m = true ∧ inT e.d = true ∧ inT e.wk = true ∧ inT e.rk = true ∧ 0 ≤ e.wd ∧ e.wd ≤ 6 ∧ idn e.se = true ∧ idn e.pr = true ∧ (∀ s ∈ e.co, idn s = true) ∧ (∀ s ∈ e.om, idn s = true) ∧ (e.ki = 3 → inT e.fm = true ∧ inT e.fd = true) := by
  unfold okE at h
  simp only [Bool.and_eq_true, decide_eq_true_eq] at h
  obtain ⟨⟨hy, hm, hd, hwk, hrk, w1, w2, k1, k2⟩, hf, hse, hpr, hco, hom⟩ := h
  refine ⟨hm, hd, hwk, hrk, w1, w2, hse, hpr, List.all_eq_true.1 hco, List.all_eq_true.1 hom, fun c => ?_⟩
  rw [if_pos c] at hf
  simp only [Bool.and_eq_true] at hf
  exact hf.2
theorem txFr_le {e : Ent} (h : e.ki = 3 → inT e.fm = true ∧ inT e.fd = true) : (txFr e).size ≤ 29 := by
  unfold txFr
  split
  · rename_i c
    have h1 := itB_size (h c).1
    have h2 := itB_size (h c).2
    have e1 : wFm.size = 6 := rfl
    have e2 : wSp.size = 1 := rfl
    simp only [ByteArray.size_append]; omega
  · exact Nat.zero_le _
theorem tx_sum {d s f n1 n2 n3 n4 n5 n6 n7 n8 n9 m1 m2 l1 l2 : Nat} (hd : d = 3) (hs : s = 1) (hf : f = 1) (a1 : n1 ≤ 11) (a2 : n2 ≤ 11) (a3 : n3 ≤ 11) (a4 : n4 ≤ 11) (a5 : n5 ≤ 9) (a6 : n6 ≤ 40) (a7 : n7 ≤ 40) (a8 : n8 ≤ 49 * l1) (a9 : n9 ≤ 49 * l2) (b1 : m1 ≤ 8) (b2 : m2 ≤ 29) :
    d + (s + (n1 + (s + (n2 + (s + (n5 + (s + (n6 + (s + (n3 + (s + (m1 + (s + (n7 + (s + (n4 + (m2 + (n8 + (n9 + f))))))))))))))))))) ≤ 182 + 49 * (l1 + l2) := by
  obtain ⟨X1, h1⟩ : ∃ X, X = n8 + (n9 + f) := ⟨_, rfl⟩
  rw [← h1]
  have s1 : X1 ≤ 49 * (l1 + l2) + 1 := by omega
  clear h1 a8 a9 hf
  obtain ⟨X2, h2⟩ : ∃ X, X = n4 + (m2 + X1) := ⟨_, rfl⟩
  rw [← h2]
  have s2 : X2 ≤ 49 * (l1 + l2) + 41 := by omega
  clear h2 s1 a4 b2
  obtain ⟨X3, h3⟩ : ∃ X, X = s + (n7 + (s + X2)) := ⟨_, rfl⟩
  rw [← h3]
  have s3 : X3 ≤ 49 * (l1 + l2) + 83 := by omega
  clear h3 s2 a7
  obtain ⟨X4, h4⟩ : ∃ X, X = s + (n3 + (s + (m1 + X3))) := ⟨_, rfl⟩
  rw [← h4]
  have s4 : X4 ≤ 49 * (l1 + l2) + 104 := by omega
  clear h4 s3 a3 b1
  obtain ⟨X5, h5⟩ : ∃ X, X = s + (n5 + (s + (n6 + X4))) := ⟨_, rfl⟩
  rw [← h5]
  have s5 : X5 ≤ 49 * (l1 + l2) + 155 := by omega
  clear h5 s4 a5 a6
  omega
theorem txE_le {y : Int} {e : Ent} (h : okE y e = true) : (wDay ++ txE e).size ≤ 182 + 49 * (e.co.length + e.om.length) := by
  obtain ⟨hm, hd, hwk, hrk, w1, w2, hse, hpr, hco, hom, hf⟩ := okE_all h
  have a1 := itB_size hm
  have a2 := itB_size hd
  have a3 := itB_size hwk
  have a4 := itB_size hrk
  have a5 := nm_le w1 w2
  have a6 := idn_size hse
  have a7 := idn_size hpr
  have a8 := txs2_le (w := wWi) (by decide) hco
  have a9 := txs2_le (w := wWo) (by decide) hom
  have b1 := txKi_le e.ki
  have b2 := txFr_le hf
  have e1 : wSp.size = 1 := rfl
  have e2 : wLf.size = 1 := rfl
  have e3 : wDay.size = 3 := rfl
  unfold txE txOt
  simp only [ByteArray.size_append]
  exact tx_sum e3 e1 e2 a1 a2 a3 a4 a5 a6 a7 a8 a9 b1 b2
theorem txEs_le2 {y : Int} : ∀ {l : List Ent}, (∀ e ∈ l, okE y e = true) → (txEs l).size ≤ 182 * l.length + 49 * sumE l
  | [], _ => Nat.zero_le _
  | e :: l, h => by
    have h1 := txE_le (h e (by simp))
    have h2 := txEs_le2 fun e he => h e (List.mem_cons_of_mem _ he)
    show ((wDay ++ txE e) ++ txEs l).size ≤ 182 * (l.length + 1) + 49 * (e.co.length + e.om.length + sumE l)
    rw [ByteArray.size_append (a := wDay ++ txE e)]; omega
theorem txK_le {k : Kal} (h : okK k = true) (h1 : k.es.length ≤ 400) (h2 : sumE k.es ≤ 500) : (txK k).size ≤ 98000 := by
  unfold okK at h
  rw [Bool.and_eq_true] at h
  have a1 := itB_size h.1
  have a2 := txEs_le2 (List.all_eq_true.1 h.2)
  have e1 : wCl.size = 9 := rfl
  have e2 : wLf.size = 1 := rfl
  have e3 : wEnd.size = 4 := rfl
  unfold txK
  simp only [ByteArray.size_append]
  omega
/-! line feeds -/
theorem nlf_txs2 {w : ByteArray} (hw : nlf w = 0) : ∀ {l : List ByteArray}, (∀ s ∈ l, idn s = true) → nlf (txs2 w l) = 0
  | [], _ => rfl
  | s :: l, h => by
    show nlf (w ++ (s ++ txs2 w l)) = 0
    rw [nlf_app, nlf_app, hw, nlf_idn (h s (by simp)), nlf_txs2 hw fun s hs => h s (List.mem_cons_of_mem _ hs)]
theorem nlf_txE {y : Int} {e : Ent} (h : okE y e = true) : nlf (wDay ++ txE e) = 1 := by
  obtain ⟨hm, hd, hwk, hrk, w1, w2, hse, hpr, hco, hom, hf⟩ := okE_all h
  have e1 : nlf wSp = 0 := rfl
  have e2 : nlf wLf = 1 := rfl
  have e3 : nlf wDay = 0 := rfl
  have e4 : nlf wFm = 0 := rfl
  have b1 : nlf (txKi e.ki) = 0 := by unfold txKi; split; rfl; split <;> rfl
  have b2 : nlf (txFr e) = 0 := by
    unfold txFr
    split
    · rename_i c
      simp only [nlf_app, nlf_itB (hf c).1, nlf_itB (hf c).2, e1, e4]
    · rfl
  unfold txE txOt
  simp only [nlf_app, nlf_itB hm, nlf_itB hd, nlf_itB hwk, nlf_itB hrk, nlf_nm w1 w2, nlf_idn hse, nlf_idn hpr, nlf_txs2 (w := wWi) rfl hco, nlf_txs2 (w := wWo) rfl hom, b1, b2, e1, e2, e3]
theorem nlf_txEs {y : Int} : ∀ {l : List Ent}, (∀ e ∈ l, okE y e = true) → nlf (txEs l) = l.length
  | [], _ => rfl
  | e :: l, h => by
    show nlf ((wDay ++ txE e) ++ txEs l) = l.length + 1
    rw [nlf_app, nlf_txE (h e (by simp)), nlf_txEs fun e he => h e (List.mem_cons_of_mem _ he)]; omega
theorem nlf_txK {k : Kal} (h : okK k = true) : nlf (txK k) = 2 + k.es.length := by
  unfold okK at h
  rw [Bool.and_eq_true] at h
  have e1 : nlf wCl = 0 := rfl
  have e2 : nlf wLf = 1 := rfl
  have e3 : nlf wEnd = 1 := rfl
  unfold txK
  simp only [nlf_app, nlf_itB h.1, nlf_txEs (List.all_eq_true.1 h.2), e1, e2, e3]
  omega
theorem txK_last (k : Kal) : bt (txK k) ((txK k).size - 1) = 10 ∧ 1 ≤ (txK k).size := by
  have e : txK k = (wCl ++ (itB k.y ++ (wLf ++ txEs k.es))) ++ wEnd := by unfold txK; simp only [ByteArray.append_assoc]
  rw [e]
  exact ⟨(bt_last _ _ (by decide)).trans (by decide), by rw [ByteArray.size_append]; have : wEnd.size = 4 := rfl; omega⟩
end
section
open Go.RowKit

structure KB (W : World) (yr : Int) (l : List Enz) (A : Option Addr) (c : Nat) (u : World) : Prop where
  row : u.heap[W.heap.size]? = some (.cells #[.int .i64 yr, .slice A l.length c] 25 (0, 0))
  k : KlAt u (.slice A l.length c) l
  bl : Below W.heap.size W u
  t : T26 u
theorem KB.on {W : World} {yr : Int} {l : List Enz} {A : Option Addr} {c : Nat} {u u' : World} (h : KB W yr l A c u) (hb : Below u.heap.size u u') : KB W yr l A c u' := ⟨row_kept h.row hb, h.k.on hb, below_on h.bl hb, h.t.on hb⟩
theorem KB.new {W : World} {yr : Int} {l : List Enz} {A : Option Addr} {c : Nat} (hT : T26 W) (h1 : KlAt W (.slice A l.length c) l) : KB W yr l A c (W.alloc (.cells #[.int .i64 yr, .slice A l.length c] 25)) :=
  ⟨heap_alloc_new W _, h1.on (al1 W _), al1 W _, hT.on (al1 W _)⟩
theorem KB.cells {W : World} {yr : Int} {l : List Enz} {A : Option Addr} {c : Nat} {u : World} (h : KB W yr l A c u) : u.cell? ⟨W.heap.size, 0, none⟩ = some (.int .i64 yr) ∧ u.cell? ⟨W.heap.size, 1, none⟩ = some (.slice A l.length c) := by
  refine ⟨?_, ?_⟩ <;> (rw [cell_of_row _ _ _ _ _ _ h.row]; rfl)
/-- What few and Printable give. -/
theorem few_in {l : List Enz} (h : l.length ≤ 400 ∧ sumE (l.map Enz.e) ≤ 500) : l.length ≤ 1000000 ∧ ∀ z ∈ l, z.e.co.length ≤ 1000000 ∧ z.e.om.length ≤ 1000000 :=
  ⟨by omega, fun z hz => by have := sumE_mem l z hz; omega⟩
theorem few_ok {yr : Int} {l : List Enz} (h : l.length ≤ 400 ∧ sumE (l.map Enz.e) ≤ 500) (ho : okK ⟨yr, l.map Enz.e⟩ = true) : inT yr = true ∧ (txK ⟨yr, l.map Enz.e⟩).size ≤ 98000 ∧ (∀ e ∈ l.map Enz.e, LnOk e) ∧ (l.map Enz.e).length ≤ 1000000 := by
  have hz := txK_le ho (by show (l.map Enz.e).length ≤ 400; rw [List.length_map]; exact h.1) h.2
  unfold okK at ho
  rw [Bool.and_eq_true] at ho
  refine ⟨ho.1, hz, fun e he => ?_, by rw [List.length_map]; omega⟩
  obtain ⟨z, hzl, rfl⟩ := List.mem_map.1 he
  have h1 := sumE_mem l z hzl
  have h2 := List.all_eq_true.1 ho.2 z.e he
  have h3 := txE_le h2
  refine .of (y := yr) h2 (by omega) ?_
  rw [txL_txE, ByteArray.size_append] at h3
  omega
end
section
open Go.RowKit

theorem sadd {a b : ByteArray} (h : a.size + b.size ≤ 100000000) (u : World) : (Op.stringOp .add a b).run Tryz.prog u = .ok (.string (a ++ b)) u := by
  rw [run_string_add_if, if_neg]
  omega
theorem dig_run {k : Nat} (h : k < 10) (w : World) : (Instr.slice 9 (.string ⟨#[48, 49, 50, 51, 52, 53, 54, 55, 56, 57]⟩) (some (.int .i64 (k : Int))) (some (.int .i64 ((k : Int) + 1))) none).run Tryz.prog w = .ok (.string (dgS.extract k (k + 1))) w :=
  ext_run dgS k (k + 1) (by omega) (by have : dgS.size = 10 := rfl; omega) w
theorem dcF_le (f n : Nat) : (dcF f n).size ≤ f := by
  induction f generalizing n with
  | zero => exact Nat.le_refl _
  | succ f ih =>
    have hs : dgS.size = 10 := rfl
    unfold dcF
    split
    · rw [ByteArray.size_extract]; omega
    · have := ih (n / 10)
      rw [ByteArray.size_append, ByteArray.size_extract]; omega
set_option maxRecDepth 100000 in
theorem r26dig : ∀ (f m : Nat), 1 ≤ f → (m : Int) < pw f → m < 10000000000 → f ≤ 20 → ∀ w : World, Calls Tryz.prog 66 #[.int .i64 (m : Int)] w fun e w' => e = .returned (.string (dcF f m)) ∧ w = w' := by
  intro f
  induction f with
  | zero => intro m h; omega
  | succ f ih =>
    intro m _ hm hb hf w
    obtain ⟨r, hr⟩ : ∃ r, r = m % 10 := ⟨_, rfl⟩
    obtain ⟨q, hq⟩ : ∃ q, q = m / 10 := ⟨_, rfl⟩
    have q1 : (m : Int).tmod 10 = (r : Int) := by rw [Int.tmod_eq_emod_of_nonneg (by omega)]; omega
    have q2 : (m : Int).tdiv 10 = (q : Int) := by rw [Int.tdiv_eq_ediv_of_nonneg (by omega)]; omega
    have w1 : IntKind.i64.wrap (r : Int) = (r : Int) := by rw [IntKind.wrap_i64]; omega
    have w2 : IntKind.i64.wrap ((r : Int) + 1) = (r : Int) + 1 := by rw [IntKind.wrap_i64]; omega
    have w3 : IntKind.i64.wrap (q : Int) = (q : Int) := by rw [IntKind.wrap_i64]; omega
    have hsl := fun u : World => dig_run (k := r) (by omega) u
    by_cases c : m < 10
    · have c' : (m : Int) < 10 := by omega
      have e : dcF (f + 1) m = dgS.extract r (r + 1) := by
        show (if m < 10 then _ else _) = _
        rw [if_pos c, hr, Nat.mod_eq_of_lt c]
      rw [e]
      generalize dgS.extract r (r + 1) = t at *
      clear e ih hr hq
      go_enter Tryz.func66, Tryz.ntmps66
      go_wp2_with fail
      go_ret
      exact ⟨rfl, rfl⟩
    · have c' : ¬ (m : Int) < 10 := by omega
      have e : dcF (f + 1) m = dcF f q ++ dgS.extract r (r + 1) := by
        show (if m < 10 then _ else _) = _
        rw [if_neg c, hr, hq]
      have epw : pw (f + 1) = 10 * pw f := rfl
      have f1 : 1 ≤ f := by
        rcases Nat.eq_zero_or_pos f with q | q
        · subst q
          have : pw 0 = 1 := rfl
          omega
        · exact q
      have HI := Lib.hid (ih q f1 (by omega) (by omega) (by omega))
      have hadd := fun u : World => sadd (a := dcF f q) (b := dgS.extract r (r + 1)) (by have h1 := dcF_le f q; have hs : dgS.size = 10 := rfl; rw [ByteArray.size_extract]; omega) u
      rw [e]
      clear e ih hr hq
      generalize dgS.extract r (r + 1) = t at *
      generalize dcF f q = t2 at *
      go_enter Tryz.func66, Tryz.ntmps66
      go_wp2_with (go_at_call 66; refine (HI.out _).mono ?_; rintro e w' ⟨rfl, rfl⟩)
      go_ret
      exact ⟨rfl, rfl⟩
theorem r26tnu {n : Int} (h : inT n = true) (w : World) : Calls Tryz.prog 39 #[.int .i64 n] w fun e w' => e = .returned (.string (itB n)) ∧ w = w' := by
  obtain ⟨h1, h2⟩ := inT_iff.1 h
  have p10 : pw 10 = 10000000000 := rfl
  by_cases c : n < 0
  · obtain ⟨m, rfl⟩ : ∃ m : Nat, n = -(m : Int) := ⟨n.natAbs, by omega⟩
    have HD := Lib.hid (r26dig 10 m (by omega) (by omega) (by omega) (by omega))
    have hw : IntKind.i64.wrap (m : Int) = (m : Int) := by rw [IntKind.wrap_i64]; omega
    have e : itB (-(m : Int)) = ⟨#[45]⟩ ++ dcF 10 m := itB_neg (by omega)
    have hadd := fun u : World => sadd (a := ⟨#[45]⟩) (b := dcF 10 m) (by have h1 := dcF_le 10 m; have : (ByteArray.mk #[45]).size = 1 := rfl; omega) u
    rw [e]
    clear e
    generalize dcF 10 m = t at *
    go_enter Tryz.func39, Tryz.ntmps39
    go_wp2_with (go_at_call 66; refine (HD.out _).mono ?_; rintro e w' ⟨rfl, rfl⟩)
    go_ret
    exact ⟨rfl, rfl⟩
  · obtain ⟨m, rfl⟩ : ∃ m : Nat, n = (m : Int) := ⟨n.natAbs, by omega⟩
    have HD := Lib.hid (r26dig 10 m (by omega) (by omega) (by omega) (by omega))
    rw [itB_pos]
    generalize dcF 10 m = t at *
    go_enter Tryz.func39, Tryz.ntmps39
    go_wp2_with (go_at_call 66; refine (HD.out _).mono ?_; rintro e w' ⟨rfl, rfl⟩)
    go_ret
    exact ⟨rfl, rfl⟩
theorem litsz {l : Array UInt8} : (ByteArray.mk l).size = l.size := rfl
end
section
open Go.RowKit

set_option maxRecDepth 100000 in
theorem r27kin {k : Int} (h : 1 ≤ k ∧ k ≤ 3) (w : World) : Calls Tryz.prog 41 #[.int .i64 k] w fun e w' => e = .returned (.string (txKi k)) ∧ w = w' := by
  obtain rfl | rfl | rfl : k = 1 ∨ k = 2 ∨ k = 3 := by omega
  all_goals
    go_enter Tryz.func41, Tryz.ntmps41
    go_wp2_with fail
    go_ret
    exact ⟨rfl, rfl⟩
theorem txs2_take (w : ByteArray) : ∀ (l : List ByteArray) (k : Nat) (s : ByteArray), l[k]? = some s → txs2 w (l.take (k + 1)) = txs2 w (l.take k) ++ (w ++ s)
  | [], k, s, h => by simp at h
  | x :: l, 0, s, h => by
    obtain rfl : x = s := by simpa using h
    simp only [List.take_succ_cons, List.take_zero, txs2, ByteArray.append_empty, ByteArray.empty_append]
  | x :: l, k + 1, s, h => by
    have := txs2_take w l k s (by simpa using h)
    simp only [List.take_succ_cons, txs2] at this ⊢
    rw [this]
    simp only [ByteArray.append_assoc]
/-- A line's beginning. -/
def txHd (e : Ent) : ByteArray := wDay ++ (wSp ++ (itB e.m ++ (wSp ++ (itB e.d ++ (wSp ++ (nm e.wd ++ (wSp ++ (e.se ++ (wSp ++ (itB e.wk ++ (wSp ++ (txKi e.ki ++ (wSp ++ (e.pr ++ (wSp ++ itB e.rk)))))))))))))))
theorem txL_hd (e : Ent) : txL e = ((txHd e ++ txFr e) ++ txs2 wWi e.co) ++ txs2 wWo e.om := by
  have hf : spj (frmW e) = txFr e := by
    unfold frmW txFr
    split
    · have q : wFm = wSp ++ (⟨#[102, 114, 111, 109]⟩ ++ wSp) := rfl
      show wSp ++ (⟨#[102, 114, 111, 109]⟩ ++ (wSp ++ (itB e.fm ++ (wSp ++ (itB e.fd ++ ByteArray.empty))))) = _
      rw [q, ByteArray.append_assoc, ByteArray.append_assoc, ByteArray.append_empty]
    · rfl
  unfold txL lineW
  rw [List.append_assoc, List.append_assoc, List.cons_append, jn_spj, spj_app, spj_app, spj_app, hf, spj_with, spj_wout]
  show wDay ++ ((wSp ++ (itB e.m ++ (wSp ++ (itB e.d ++ (wSp ++ (nm e.wd ++ (wSp ++ (e.se ++ (wSp ++ (itB e.wk ++ (wSp ++ (txKi e.ki ++ (wSp ++ (e.pr ++ (wSp ++ (itB e.rk ++ ByteArray.empty)))))))))))))))) ++ (txFr e ++ (txs2 wWi e.co ++ txs2 wWo e.om))) = _
  unfold txHd
  simp only [ByteArray.append_assoc, ByteArray.append_empty]
set_option maxRecDepth 100000 in
set_option maxHeartbeats 8000000 in
theorem r27lin {y : Int} {e : Ent} {vc vo : Value} {w : World} (hc : TxAt w vc e.co) (ho : TxAt w vo e.om) (hk : okE y e = true) (nc : e.co.length ≤ 1000) (no : e.om.length ≤ 1000) :
    Calls Tryz.prog 16 #[.agg (e.cells vc vo)] w fun r w' => r = .returned (.string (txL e)) ∧ Below w.heap.size w w' := by
  have k1 : 1 ≤ e.ki ∧ e.ki ≤ 3 := by
    unfold okE at hk
    simp only [Bool.and_eq_true, decide_eq_true_eq] at hk
    exact hk.1.2.2.2.2.2.2.2
  rw [txL_hd]
  obtain ⟨hm, hd, hwk, hrk, w1, w2, hse, hpr, hco, hom, hf⟩ := okE_all hk
  have zfr := txFr_le hf
  have a1 := itB_size hm
  have a2 := itB_size hd
  have a3 := itB_size hwk
  have a4 := itB_size hrk
  have a5 := nm_le w1 w2
  have a6 := idn_size hse
  have a7 := idn_size hpr
  have a8 := txKi_le e.ki
  have hcl := Lib.hid (fun k => txs2_le (w := wWi) (by decide) (l := e.co.take k) fun s hs => hco s (List.mem_of_mem_take hs))
  have hol := Lib.hid (fun k => txs2_le (w := wWo) (by decide) (l := e.om.take k) fun s hs => hom s (List.mem_of_mem_take hs))
  have hci := Lib.hid (fun s hs => idn_size (hco s hs))
  have hoi := Lib.hid (fun s hs => idn_size (hom s hs))
  clear hk
  obtain ⟨ey, em, ed, ewd, ese, ewk, eki, epr, erk, efy, efm, efd, eco, eom⟩ := e
  simp only at hm hd hwk hrk w1 w2 hse hpr hco hom hf nc no k1 a1 a2 a3 a4 a5 a6 a7 a8 hc ho hcl hol hci hoi
  have Hm := Lib.hid (fun u : World => r26tnu hm u)
  have Hd := Lib.hid (fun u : World => r26tnu hd u)
  have Hw := Lib.hid (fun u : World => r26tnu hwk u)
  have Hr := Lib.hid (fun u : World => r26tnu hrk u)
  have HN := Lib.hid (fun u : World => rname_any ewd u)
  have HK := Lib.hid (fun u : World => r27kin k1 u)
  clear hm hd hwk hrk w1 w2 hse hpr hco hom
  obtain ⟨w0, hw0⟩ : ∃ u, u = w.alloc (.cells #[.int .i64 ey, .int .i64 em, .int .i64 ed, .int .i64 ewd, .string ese, .int .i64 ewk, .int .i64 eki, .string epr, .int .i64 erk, .int .i64 efy, .int .i64 efm, .int .i64 efd, vc, vo] 40) := ⟨_, rfl⟩
  have B0 : Below w.heap.size w w0 := hw0 ▸ al1 w _
  have R0 : w0.heap[w.heap.size]? = some (.cells #[.int .i64 ey, .int .i64 em, .int .i64 ed, .int .i64 ewd, .string ese, .int .i64 ewk, .int .i64 eki, .string epr, .int .i64 erk, .int .i64 efy, .int .i64 efm, .int .i64 efd, vc, vo] 40 (0, 0)) := hw0 ▸ heap_alloc_new w _
  have XC := Lib.hid (hc.on B0)
  have XO := Lib.hid (ho.on B0)
  obtain ⟨ac, kc, rfl, -⟩ := hc
  obtain ⟨ao, ko, rfl, -⟩ := ho
  have RW := Lib.hid (fun (u : World) (h : Below w0.heap.size w0 u) => row14 (row_kept R0 h))
  obtain ⟨H, eH⟩ : ∃ H, H = txHd ⟨ey, em, ed, ewd, ese, ewk, eki, epr, erk, efy, efm, efd, eco, eom⟩ := ⟨_, rfl⟩
  rw [← eH]
  obtain ⟨FR, eFR⟩ : ∃ F, F = txFr ⟨ey, em, ed, ewd, ese, ewk, eki, epr, erk, efy, efm, efd, eco, eom⟩ := ⟨_, rfl⟩
  rw [← eFR]
  unfold txHd at eH
  simp only at eH
  generalize itB em = tm at *
  generalize itB ed = td at *
  generalize itB ewk = tw at *
  generalize itB erk = tr at *
  generalize nm ewd = tn at *
  generalize txKi eki = tk at *
  have y2 : (⟨#[32]⟩ : ByteArray).size = 1 := rfl
  have y3 : (⟨#[100, 97, 121, 32]⟩ : ByteArray).size = 4 := rfl
  obtain ⟨d1, ed1⟩ : ∃ d, d = (⟨#[100, 97, 121, 32]⟩ : ByteArray) ++ tm := ⟨_, rfl⟩
  have zd1 : d1.size ≤ 45 := by rw [ed1, ByteArray.size_append]; omega
  have add1 : ∀ u : World, (Op.stringOp .add (⟨#[100, 97, 121, 32]⟩ : ByteArray) tm).run Tryz.prog u = .ok (.string d1) u := fun u => by rw [ed1]; exact sadd (by omega) u
  obtain ⟨d2, ed2⟩ : ∃ d, d = d1 ++ (⟨#[32]⟩ : ByteArray) := ⟨_, rfl⟩
  have zd2 : d2.size ≤ 86 := by rw [ed2, ByteArray.size_append]; omega
  have add2 : ∀ u : World, (Op.stringOp .add d1 (⟨#[32]⟩ : ByteArray)).run Tryz.prog u = .ok (.string d2) u := fun u => by rw [ed2]; exact sadd (by omega) u
  obtain ⟨d3, ed3⟩ : ∃ d, d = d2 ++ td := ⟨_, rfl⟩
  have zd3 : d3.size ≤ 127 := by rw [ed3, ByteArray.size_append]; omega
  have add3 : ∀ u : World, (Op.stringOp .add d2 td).run Tryz.prog u = .ok (.string d3) u := fun u => by rw [ed3]; exact sadd (by omega) u
  obtain ⟨d4, ed4⟩ : ∃ d, d = d3 ++ (⟨#[32]⟩ : ByteArray) := ⟨_, rfl⟩
  have zd4 : d4.size ≤ 168 := by rw [ed4, ByteArray.size_append]; omega
  have add4 : ∀ u : World, (Op.stringOp .add d3 (⟨#[32]⟩ : ByteArray)).run Tryz.prog u = .ok (.string d4) u := fun u => by rw [ed4]; exact sadd (by omega) u
  obtain ⟨d5, ed5⟩ : ∃ d, d = d4 ++ tn := ⟨_, rfl⟩
  have zd5 : d5.size ≤ 209 := by rw [ed5, ByteArray.size_append]; omega
  have add5 : ∀ u : World, (Op.stringOp .add d4 tn).run Tryz.prog u = .ok (.string d5) u := fun u => by rw [ed5]; exact sadd (by omega) u
  obtain ⟨d6, ed6⟩ : ∃ d, d = d5 ++ (⟨#[32]⟩ : ByteArray) := ⟨_, rfl⟩
  have zd6 : d6.size ≤ 250 := by rw [ed6, ByteArray.size_append]; omega
  have add6 : ∀ u : World, (Op.stringOp .add d5 (⟨#[32]⟩ : ByteArray)).run Tryz.prog u = .ok (.string d6) u := fun u => by rw [ed6]; exact sadd (by omega) u
  obtain ⟨d7, ed7⟩ : ∃ d, d = d6 ++ ese := ⟨_, rfl⟩
  have zd7 : d7.size ≤ 291 := by rw [ed7, ByteArray.size_append]; omega
  have add7 : ∀ u : World, (Op.stringOp .add d6 ese).run Tryz.prog u = .ok (.string d7) u := fun u => by rw [ed7]; exact sadd (by omega) u
  obtain ⟨d8, ed8⟩ : ∃ d, d = d7 ++ (⟨#[32]⟩ : ByteArray) := ⟨_, rfl⟩
  have zd8 : d8.size ≤ 332 := by rw [ed8, ByteArray.size_append]; omega
  have add8 : ∀ u : World, (Op.stringOp .add d7 (⟨#[32]⟩ : ByteArray)).run Tryz.prog u = .ok (.string d8) u := fun u => by rw [ed8]; exact sadd (by omega) u
  obtain ⟨d9, ed9⟩ : ∃ d, d = d8 ++ tw := ⟨_, rfl⟩
  have zd9 : d9.size ≤ 373 := by rw [ed9, ByteArray.size_append]; omega
  have add9 : ∀ u : World, (Op.stringOp .add d8 tw).run Tryz.prog u = .ok (.string d9) u := fun u => by rw [ed9]; exact sadd (by omega) u
  obtain ⟨d10, ed10⟩ : ∃ d, d = d9 ++ (⟨#[32]⟩ : ByteArray) := ⟨_, rfl⟩
  have zd10 : d10.size ≤ 414 := by rw [ed10, ByteArray.size_append]; omega
  have add10 : ∀ u : World, (Op.stringOp .add d9 (⟨#[32]⟩ : ByteArray)).run Tryz.prog u = .ok (.string d10) u := fun u => by rw [ed10]; exact sadd (by omega) u
  obtain ⟨d11, ed11⟩ : ∃ d, d = d10 ++ tk := ⟨_, rfl⟩
  have zd11 : d11.size ≤ 455 := by rw [ed11, ByteArray.size_append]; omega
  have add11 : ∀ u : World, (Op.stringOp .add d10 tk).run Tryz.prog u = .ok (.string d11) u := fun u => by rw [ed11]; exact sadd (by omega) u
  obtain ⟨d12, ed12⟩ : ∃ d, d = d11 ++ (⟨#[32]⟩ : ByteArray) := ⟨_, rfl⟩
  have zd12 : d12.size ≤ 496 := by rw [ed12, ByteArray.size_append]; omega
  have add12 : ∀ u : World, (Op.stringOp .add d11 (⟨#[32]⟩ : ByteArray)).run Tryz.prog u = .ok (.string d12) u := fun u => by rw [ed12]; exact sadd (by omega) u
  obtain ⟨d13, ed13⟩ : ∃ d, d = d12 ++ epr := ⟨_, rfl⟩
  have zd13 : d13.size ≤ 537 := by rw [ed13, ByteArray.size_append]; omega
  have add13 : ∀ u : World, (Op.stringOp .add d12 epr).run Tryz.prog u = .ok (.string d13) u := fun u => by rw [ed13]; exact sadd (by omega) u
  obtain ⟨d14, ed14⟩ : ∃ d, d = d13 ++ (⟨#[32]⟩ : ByteArray) := ⟨_, rfl⟩
  have zd14 : d14.size ≤ 578 := by rw [ed14, ByteArray.size_append]; omega
  have add14 : ∀ u : World, (Op.stringOp .add d13 (⟨#[32]⟩ : ByteArray)).run Tryz.prog u = .ok (.string d14) u := fun u => by rw [ed14]; exact sadd (by omega) u
  obtain ⟨d15, ed15⟩ : ∃ d, d = d14 ++ tr := ⟨_, rfl⟩
  have zd15 : d15.size ≤ 619 := by rw [ed15, ByteArray.size_append]; omega
  have add15 : ∀ u : World, (Op.stringOp .add d14 tr).run Tryz.prog u = .ok (.string d15) u := fun u => by rw [ed15]; exact sadd (by omega) u
  have eD : d15 = H := by
    have q1 : (⟨#[100, 97, 121, 32]⟩ : ByteArray) = wDay ++ wSp := rfl
    have q2 : (⟨#[32]⟩ : ByteArray) = wSp := rfl
    rw [eH, ed15, ed14, ed13, ed12, ed11, ed10, ed9, ed8, ed7, ed6, ed5, ed4, ed3, ed2, ed1, q1, q2]
    simp only [ByteArray.append_assoc]
  have zH : H.size ≤ 700 := by rw [← eD]; omega
  clear eH ed1 zd1 ed2 zd2 ed3 zd3 ed4 zd4 ed5 zd5 ed6 zd6 ed7 zd7 ed8 zd8 ed9 zd9 ed10 zd10 ed11 zd11 ed12 zd12 ed13 zd13 ed14 zd14 ed15 zd15 a1 a2 a3 a4 a5 a6 a7 a8 y2 y3
  go_enter Tryz.func16, Tryz.ntmps16
  go_wp2_with fail
  rw [← hw0]
  have B0 := Lib.hid B0
  clear hw0
  generalize hP : w.heap.size = P at *
  clear R0
  refine wp_region_held_drew (S := fun u => Below w0.heap.size w0 u) (by kernel_rfl) (below_dn (Below.refl _ _) 1) (fun hHeld => ?_)
  refine wpAnyH_take (i := 0) (oi := { dst := some 6, op := _, type := _, pos := _, after := _, guard := _ }) (v := ?v1_0) rfl (by kernel_rfl) (by kernel_rfl) (by kernel_rfl) (fun _ _ _ h => h) (Or.inl ⟨by rfl, ?hy1_0⟩) hHeld ?_
  case hy1_0 => (intro w hSw; obtain ⟨s0, s1, s2, s3, s4, s5, s6, s7, s8, s9, s10, s11, s12, s13⟩ := RW.out _ hSw; go_simp; try with_reducible rfl)
  simp only [Act.put, List.setIfInBounds_toArray, List.set_cons_zero, List.set_cons_succ]
  refine wpAnyH_take (i := 1) (oi := { dst := some 7, op := _, type := _, pos := _, after := _, guard := _ }) (v := ?v1_1) rfl (by kernel_rfl) (by kernel_rfl) (by kernel_rfl) (fun _ _ _ h => h) (Or.inl ⟨by rfl, ?hy1_1⟩) hHeld ?_
  case hy1_1 => (intro w hSw; obtain ⟨s0, s1, s2, s3, s4, s5, s6, s7, s8, s9, s10, s11, s12, s13⟩ := RW.out _ hSw; go_simp; try with_reducible rfl)
  simp only [Act.put, List.setIfInBounds_toArray, List.set_cons_zero, List.set_cons_succ]
  refine wpAnyH_take (i := 2) (oi := { dst := some 8, op := _, type := _, pos := _, after := _, guard := _ }) (v := ?v1_2) rfl (by kernel_rfl) (by kernel_rfl) (by kernel_rfl) (fun _ _ _ h => h) (Or.inl ⟨by rfl, ?hy1_2⟩) hHeld ?_
  case hy1_2 => (intro w hSw; obtain ⟨s0, s1, s2, s3, s4, s5, s6, s7, s8, s9, s10, s11, s12, s13⟩ := RW.out _ hSw; go_simp; try with_reducible rfl)
  simp only [Act.put, List.setIfInBounds_toArray, List.set_cons_zero, List.set_cons_succ]
  refine wpAnyH_take (i := 6) (oi := { dst := some 12, op := _, type := _, pos := _, after := _, guard := _ }) (v := ?v1_6) rfl (by kernel_rfl) (by kernel_rfl) (by kernel_rfl) (fun _ _ _ h => h) (Or.inl ⟨by rfl, ?hy1_6⟩) hHeld ?_
  case hy1_6 => (intro w hSw; obtain ⟨s0, s1, s2, s3, s4, s5, s6, s7, s8, s9, s10, s11, s12, s13⟩ := RW.out _ hSw; go_simp; try with_reducible rfl)
  simp only [Act.put, List.setIfInBounds_toArray, List.set_cons_zero, List.set_cons_succ]
  refine wpAnyH_take (i := 7) (oi := { dst := some 13, op := _, type := _, pos := _, after := _, guard := _ }) (v := ?v1_7) rfl (by kernel_rfl) (by kernel_rfl) (by kernel_rfl) (fun _ _ _ h => h) (Or.inl ⟨by rfl, ?hy1_7⟩) hHeld ?_
  case hy1_7 => (intro w hSw; obtain ⟨s0, s1, s2, s3, s4, s5, s6, s7, s8, s9, s10, s11, s12, s13⟩ := RW.out _ hSw; go_simp; try with_reducible rfl)
  simp only [Act.put, List.setIfInBounds_toArray, List.set_cons_zero, List.set_cons_succ]
  refine wpAnyH_take (i := 8) (oi := { dst := some 14, op := _, type := _, pos := _, after := _, guard := _ }) (v := ?v1_8) rfl (by kernel_rfl) (by kernel_rfl) (by kernel_rfl) (fun _ _ _ h => h) (Or.inl ⟨by rfl, ?hy1_8⟩) hHeld ?_
  case hy1_8 => (intro w hSw; obtain ⟨s0, s1, s2, s3, s4, s5, s6, s7, s8, s9, s10, s11, s12, s13⟩ := RW.out _ hSw; go_simp; try with_reducible rfl)
  simp only [Act.put, List.setIfInBounds_toArray, List.set_cons_zero, List.set_cons_succ]
  refine wpAnyH_take (i := 12) (oi := { dst := some 18, op := _, type := _, pos := _, after := _, guard := _ }) (v := ?v1_12) rfl (by kernel_rfl) (by kernel_rfl) (by kernel_rfl) (fun _ _ _ h => h) (Or.inl ⟨by rfl, ?hy1_12⟩) hHeld ?_
  case hy1_12 => (intro w hSw; obtain ⟨s0, s1, s2, s3, s4, s5, s6, s7, s8, s9, s10, s11, s12, s13⟩ := RW.out _ hSw; go_simp; try with_reducible rfl)
  simp only [Act.put, List.setIfInBounds_toArray, List.set_cons_zero, List.set_cons_succ]
  refine wpAnyH_take (i := 13) (oi := { dst := some 19, op := _, type := _, pos := _, after := _, guard := _ }) (v := ?v1_13) rfl (by kernel_rfl) (by kernel_rfl) (by kernel_rfl) (fun _ _ _ h => h) (Or.inl ⟨by rfl, ?hy1_13⟩) hHeld ?_
  case hy1_13 => (intro w hSw; obtain ⟨s0, s1, s2, s3, s4, s5, s6, s7, s8, s9, s10, s11, s12, s13⟩ := RW.out _ hSw; go_simp; try with_reducible rfl)
  simp only [Act.put, List.setIfInBounds_toArray, List.set_cons_zero, List.set_cons_succ]
  refine wpAnyH_take (i := 17) (oi := { dst := some 23, op := _, type := _, pos := _, after := _, guard := _ }) (v := ?v1_17) rfl (by kernel_rfl) (by kernel_rfl) (by kernel_rfl) (fun _ _ _ h => h) (Or.inl ⟨by rfl, ?hy1_17⟩) hHeld ?_
  case hy1_17 => (intro w hSw; obtain ⟨s0, s1, s2, s3, s4, s5, s6, s7, s8, s9, s10, s11, s12, s13⟩ := RW.out _ hSw; go_simp; try with_reducible rfl)
  simp only [Act.put, List.setIfInBounds_toArray, List.set_cons_zero, List.set_cons_succ]
  refine wpAnyH_take (i := 18) (oi := { dst := some 24, op := _, type := _, pos := _, after := _, guard := _ }) (v := ?v1_18) rfl (by kernel_rfl) (by kernel_rfl) (by kernel_rfl) (fun _ _ _ h => h) (Or.inl ⟨by rfl, ?hy1_18⟩) hHeld ?_
  case hy1_18 => (intro w hSw; obtain ⟨s0, s1, s2, s3, s4, s5, s6, s7, s8, s9, s10, s11, s12, s13⟩ := RW.out _ hSw; go_simp; try with_reducible rfl)
  simp only [Act.put, List.setIfInBounds_toArray, List.set_cons_zero, List.set_cons_succ]
  refine wpAnyH_take (i := 21) (oi := { dst := some 27, op := _, type := _, pos := _, after := _, guard := _ }) (v := ?v1_21) rfl (by kernel_rfl) (by kernel_rfl) (by kernel_rfl) (fun _ _ _ h => h) (Or.inl ⟨by rfl, ?hy1_21⟩) hHeld ?_
  case hy1_21 => (intro w hSw; obtain ⟨s0, s1, s2, s3, s4, s5, s6, s7, s8, s9, s10, s11, s12, s13⟩ := RW.out _ hSw; go_simp; try with_reducible rfl)
  simp only [Act.put, List.setIfInBounds_toArray, List.set_cons_zero, List.set_cons_succ]
  refine wpAnyH_take (i := 22) (oi := { dst := some 28, op := _, type := _, pos := _, after := _, guard := _ }) (v := ?v1_22) rfl (by kernel_rfl) (by kernel_rfl) (by kernel_rfl) (fun _ _ _ h => h) (Or.inl ⟨by rfl, ?hy1_22⟩) hHeld ?_
  case hy1_22 => (intro w hSw; obtain ⟨s0, s1, s2, s3, s4, s5, s6, s7, s8, s9, s10, s11, s12, s13⟩ := RW.out _ hSw; go_simp; try with_reducible rfl)
  simp only [Act.put, List.setIfInBounds_toArray, List.set_cons_zero, List.set_cons_succ]
  refine wpAnyH_take (i := 26) (oi := { dst := some 32, op := _, type := _, pos := _, after := _, guard := _ }) (v := ?v1_26) rfl (by kernel_rfl) (by kernel_rfl) (by kernel_rfl) (fun _ _ _ h => h) (Or.inl ⟨by rfl, ?hy1_26⟩) hHeld ?_
  case hy1_26 => (intro w hSw; obtain ⟨s0, s1, s2, s3, s4, s5, s6, s7, s8, s9, s10, s11, s12, s13⟩ := RW.out _ hSw; go_simp; try with_reducible rfl)
  simp only [Act.put, List.setIfInBounds_toArray, List.set_cons_zero, List.set_cons_succ]
  refine wpAnyH_take (i := 27) (oi := { dst := some 33, op := _, type := _, pos := _, after := _, guard := _ }) (v := ?v1_27) rfl (by kernel_rfl) (by kernel_rfl) (by kernel_rfl) (fun _ _ _ h => h) (Or.inl ⟨by rfl, ?hy1_27⟩) hHeld ?_
  case hy1_27 => (intro w hSw; obtain ⟨s0, s1, s2, s3, s4, s5, s6, s7, s8, s9, s10, s11, s12, s13⟩ := RW.out _ hSw; go_simp; try with_reducible rfl)
  simp only [Act.put, List.setIfInBounds_toArray, List.set_cons_zero, List.set_cons_succ]
  refine wpAnyH_take (i := 31) (oi := { dst := some 37, op := _, type := _, pos := _, after := _, guard := _ }) (v := ?v1_31) rfl (by kernel_rfl) (by kernel_rfl) (by kernel_rfl) (fun _ _ _ h => h) (Or.inl ⟨by rfl, ?hy1_31⟩) hHeld ?_
  case hy1_31 => (intro w hSw; obtain ⟨s0, s1, s2, s3, s4, s5, s6, s7, s8, s9, s10, s11, s12, s13⟩ := RW.out _ hSw; go_simp; try with_reducible rfl)
  simp only [Act.put, List.setIfInBounds_toArray, List.set_cons_zero, List.set_cons_succ]
  refine wpAnyH_take (i := 32) (oi := { dst := some 38, op := _, type := _, pos := _, after := _, guard := _ }) (v := ?v1_32) rfl (by kernel_rfl) (by kernel_rfl) (by kernel_rfl) (fun _ _ _ h => h) (Or.inl ⟨by rfl, ?hy1_32⟩) hHeld ?_
  case hy1_32 => (intro w hSw; obtain ⟨s0, s1, s2, s3, s4, s5, s6, s7, s8, s9, s10, s11, s12, s13⟩ := RW.out _ hSw; go_simp; try with_reducible rfl)
  simp only [Act.put, List.setIfInBounds_toArray, List.set_cons_zero, List.set_cons_succ]
  refine wpAnyH_take (i := 35) (oi := { dst := some 41, op := _, type := _, pos := _, after := _, guard := _ }) (v := ?v1_35) rfl (by kernel_rfl) (by kernel_rfl) (by kernel_rfl) (fun _ _ _ h => h) (Or.inl ⟨by rfl, ?hy1_35⟩) hHeld ?_
  case hy1_35 => (intro w hSw; obtain ⟨s0, s1, s2, s3, s4, s5, s6, s7, s8, s9, s10, s11, s12, s13⟩ := RW.out _ hSw; go_simp; try with_reducible rfl)
  simp only [Act.put, List.setIfInBounds_toArray, List.set_cons_zero, List.set_cons_succ]
  refine wpAnyH_take (i := 36) (oi := { dst := some 42, op := _, type := _, pos := _, after := _, guard := _ }) (v := ?v1_36) rfl (by kernel_rfl) (by kernel_rfl) (by kernel_rfl) (fun _ _ _ h => h) (Or.inl ⟨by rfl, ?hy1_36⟩) hHeld ?_
  case hy1_36 => (intro w hSw; obtain ⟨s0, s1, s2, s3, s4, s5, s6, s7, s8, s9, s10, s11, s12, s13⟩ := RW.out _ hSw; go_simp; try with_reducible rfl)
  simp only [Act.put, List.setIfInBounds_toArray, List.set_cons_zero, List.set_cons_succ]
  obtain ⟨wd, hwd⟩ : ∃ wd, wd = w0.drew := ⟨_, rfl⟩
  rw [← hwd] at hHeld ⊢
  clear hwd
  have hS := Lib.hid hHeld
  refine wpAnyH_ready (rs := [3]) (by kernel_rfl) (by simp) ?_
  refine AllReadyH.cons (o := { dst := some 9, op := _, type := _, pos := _, after := _, guard := _ }) rfl (fun K hK => ?_) AllReadyH.nil
  go_simp
  go_at_call 39
  refine (Hm.out _).mono ?_
  rintro e3 u3 ⟨rfl, rfl⟩
  refine hK.out _ _ hS.out (fun hHeld => ?_)
  clear hK K
  refine wpAnyH_take (i := 4) (oi := { dst := some 10, op := _, type := _, pos := _, after := _, guard := _ }) (v := ?v1_4) rfl (by kernel_rfl) (by kernel_rfl) (by kernel_rfl) (fun _ _ _ h => h) (Or.inl ⟨by rfl, ?hy1_4⟩) hHeld ?_
  case hy1_4 => (intro w hSw; obtain ⟨s0, s1, s2, s3, s4, s5, s6, s7, s8, s9, s10, s11, s12, s13⟩ := RW.out _ hSw; go_simp; try with_reducible rfl)
  simp only [Act.put, List.setIfInBounds_toArray, List.set_cons_zero, List.set_cons_succ]
  refine wpAnyH_take (i := 5) (oi := { dst := some 11, op := _, type := _, pos := _, after := _, guard := _ }) (v := ?v1_5) rfl (by kernel_rfl) (by kernel_rfl) (by kernel_rfl) (fun _ _ _ h => h) (Or.inl ⟨by rfl, ?hy1_5⟩) hHeld ?_
  case hy1_5 => (intro w hSw; obtain ⟨s0, s1, s2, s3, s4, s5, s6, s7, s8, s9, s10, s11, s12, s13⟩ := RW.out _ hSw; go_simp; try with_reducible rfl)
  simp only [Act.put, List.setIfInBounds_toArray, List.set_cons_zero, List.set_cons_succ]
  refine wpAnyH_ready (rs := [9]) (by kernel_rfl) (by simp) ?_
  refine AllReadyH.cons (o := { dst := some 15, op := _, type := _, pos := _, after := _, guard := _ }) rfl (fun K hK => ?_) AllReadyH.nil
  go_simp
  go_at_call 39
  refine (Hd.out _).mono ?_
  rintro e9 u9 ⟨rfl, rfl⟩
  refine hK.out _ _ hS.out (fun hHeld => ?_)
  clear hK K
  refine wpAnyH_take (i := 10) (oi := { dst := some 16, op := _, type := _, pos := _, after := _, guard := _ }) (v := ?v1_10) rfl (by kernel_rfl) (by kernel_rfl) (by kernel_rfl) (fun _ _ _ h => h) (Or.inl ⟨by rfl, ?hy1_10⟩) hHeld ?_
  case hy1_10 => (intro w hSw; obtain ⟨s0, s1, s2, s3, s4, s5, s6, s7, s8, s9, s10, s11, s12, s13⟩ := RW.out _ hSw; go_simp; try with_reducible rfl)
  simp only [Act.put, List.setIfInBounds_toArray, List.set_cons_zero, List.set_cons_succ]
  refine wpAnyH_take (i := 11) (oi := { dst := some 17, op := _, type := _, pos := _, after := _, guard := _ }) (v := ?v1_11) rfl (by kernel_rfl) (by kernel_rfl) (by kernel_rfl) (fun _ _ _ h => h) (Or.inl ⟨by rfl, ?hy1_11⟩) hHeld ?_
  case hy1_11 => (intro w hSw; obtain ⟨s0, s1, s2, s3, s4, s5, s6, s7, s8, s9, s10, s11, s12, s13⟩ := RW.out _ hSw; go_simp; try with_reducible rfl)
  simp only [Act.put, List.setIfInBounds_toArray, List.set_cons_zero, List.set_cons_succ]
  refine wpAnyH_ready (rs := [14]) (by kernel_rfl) (by simp) ?_
  refine AllReadyH.cons (o := { dst := some 20, op := _, type := _, pos := _, after := _, guard := _ }) rfl (fun K hK => ?_) AllReadyH.nil
  go_simp
  go_at_call 40
  refine (HN.out _).mono ?_
  rintro e14 u14 ⟨rfl, rfl⟩
  refine hK.out _ _ hS.out (fun hHeld => ?_)
  clear hK K
  refine wpAnyH_take (i := 15) (oi := { dst := some 21, op := _, type := _, pos := _, after := _, guard := _ }) (v := ?v1_15) rfl (by kernel_rfl) (by kernel_rfl) (by kernel_rfl) (fun _ _ _ h => h) (Or.inl ⟨by rfl, ?hy1_15⟩) hHeld ?_
  case hy1_15 => (intro w hSw; obtain ⟨s0, s1, s2, s3, s4, s5, s6, s7, s8, s9, s10, s11, s12, s13⟩ := RW.out _ hSw; go_simp; try with_reducible rfl)
  simp only [Act.put, List.setIfInBounds_toArray, List.set_cons_zero, List.set_cons_succ]
  refine wpAnyH_take (i := 16) (oi := { dst := some 22, op := _, type := _, pos := _, after := _, guard := _ }) (v := ?v1_16) rfl (by kernel_rfl) (by kernel_rfl) (by kernel_rfl) (fun _ _ _ h => h) (Or.inl ⟨by rfl, ?hy1_16⟩) hHeld ?_
  case hy1_16 => (intro w hSw; obtain ⟨s0, s1, s2, s3, s4, s5, s6, s7, s8, s9, s10, s11, s12, s13⟩ := RW.out _ hSw; go_simp; try with_reducible rfl)
  simp only [Act.put, List.setIfInBounds_toArray, List.set_cons_zero, List.set_cons_succ]
  refine wpAnyH_take (i := 19) (oi := { dst := some 25, op := _, type := _, pos := _, after := _, guard := _ }) (v := ?v1_19) rfl (by kernel_rfl) (by kernel_rfl) (by kernel_rfl) (fun _ _ _ h => h) (Or.inl ⟨by rfl, ?hy1_19⟩) hHeld ?_
  case hy1_19 => (intro w hSw; obtain ⟨s0, s1, s2, s3, s4, s5, s6, s7, s8, s9, s10, s11, s12, s13⟩ := RW.out _ hSw; go_simp; try with_reducible rfl)
  simp only [Act.put, List.setIfInBounds_toArray, List.set_cons_zero, List.set_cons_succ]
  refine wpAnyH_take (i := 20) (oi := { dst := some 26, op := _, type := _, pos := _, after := _, guard := _ }) (v := ?v1_20) rfl (by kernel_rfl) (by kernel_rfl) (by kernel_rfl) (fun _ _ _ h => h) (Or.inl ⟨by rfl, ?hy1_20⟩) hHeld ?_
  case hy1_20 => (intro w hSw; obtain ⟨s0, s1, s2, s3, s4, s5, s6, s7, s8, s9, s10, s11, s12, s13⟩ := RW.out _ hSw; go_simp; try with_reducible rfl)
  simp only [Act.put, List.setIfInBounds_toArray, List.set_cons_zero, List.set_cons_succ]
  refine wpAnyH_ready (rs := [23]) (by kernel_rfl) (by simp) ?_
  refine AllReadyH.cons (o := { dst := some 29, op := _, type := _, pos := _, after := _, guard := _ }) rfl (fun K hK => ?_) AllReadyH.nil
  go_simp
  go_at_call 39
  refine (Hw.out _).mono ?_
  rintro e23 u23 ⟨rfl, rfl⟩
  refine hK.out _ _ hS.out (fun hHeld => ?_)
  clear hK K
  refine wpAnyH_take (i := 24) (oi := { dst := some 30, op := _, type := _, pos := _, after := _, guard := _ }) (v := ?v1_24) rfl (by kernel_rfl) (by kernel_rfl) (by kernel_rfl) (fun _ _ _ h => h) (Or.inl ⟨by rfl, ?hy1_24⟩) hHeld ?_
  case hy1_24 => (intro w hSw; obtain ⟨s0, s1, s2, s3, s4, s5, s6, s7, s8, s9, s10, s11, s12, s13⟩ := RW.out _ hSw; go_simp; try with_reducible rfl)
  simp only [Act.put, List.setIfInBounds_toArray, List.set_cons_zero, List.set_cons_succ]
  refine wpAnyH_take (i := 25) (oi := { dst := some 31, op := _, type := _, pos := _, after := _, guard := _ }) (v := ?v1_25) rfl (by kernel_rfl) (by kernel_rfl) (by kernel_rfl) (fun _ _ _ h => h) (Or.inl ⟨by rfl, ?hy1_25⟩) hHeld ?_
  case hy1_25 => (intro w hSw; obtain ⟨s0, s1, s2, s3, s4, s5, s6, s7, s8, s9, s10, s11, s12, s13⟩ := RW.out _ hSw; go_simp; try with_reducible rfl)
  simp only [Act.put, List.setIfInBounds_toArray, List.set_cons_zero, List.set_cons_succ]
  refine wpAnyH_ready (rs := [28]) (by kernel_rfl) (by simp) ?_
  refine AllReadyH.cons (o := { dst := some 34, op := _, type := _, pos := _, after := _, guard := _ }) rfl (fun K hK => ?_) AllReadyH.nil
  go_simp
  go_at_call 41
  refine (HK.out _).mono ?_
  rintro e28 u28 ⟨rfl, rfl⟩
  refine hK.out _ _ hS.out (fun hHeld => ?_)
  clear hK K
  refine wpAnyH_take (i := 29) (oi := { dst := some 35, op := _, type := _, pos := _, after := _, guard := _ }) (v := ?v1_29) rfl (by kernel_rfl) (by kernel_rfl) (by kernel_rfl) (fun _ _ _ h => h) (Or.inl ⟨by rfl, ?hy1_29⟩) hHeld ?_
  case hy1_29 => (intro w hSw; obtain ⟨s0, s1, s2, s3, s4, s5, s6, s7, s8, s9, s10, s11, s12, s13⟩ := RW.out _ hSw; go_simp; try with_reducible rfl)
  simp only [Act.put, List.setIfInBounds_toArray, List.set_cons_zero, List.set_cons_succ]
  refine wpAnyH_take (i := 30) (oi := { dst := some 36, op := _, type := _, pos := _, after := _, guard := _ }) (v := ?v1_30) rfl (by kernel_rfl) (by kernel_rfl) (by kernel_rfl) (fun _ _ _ h => h) (Or.inl ⟨by rfl, ?hy1_30⟩) hHeld ?_
  case hy1_30 => (intro w hSw; obtain ⟨s0, s1, s2, s3, s4, s5, s6, s7, s8, s9, s10, s11, s12, s13⟩ := RW.out _ hSw; go_simp; try with_reducible rfl)
  simp only [Act.put, List.setIfInBounds_toArray, List.set_cons_zero, List.set_cons_succ]
  refine wpAnyH_take (i := 33) (oi := { dst := some 39, op := _, type := _, pos := _, after := _, guard := _ }) (v := ?v1_33) rfl (by kernel_rfl) (by kernel_rfl) (by kernel_rfl) (fun _ _ _ h => h) (Or.inl ⟨by rfl, ?hy1_33⟩) hHeld ?_
  case hy1_33 => (intro w hSw; obtain ⟨s0, s1, s2, s3, s4, s5, s6, s7, s8, s9, s10, s11, s12, s13⟩ := RW.out _ hSw; go_simp; try with_reducible rfl)
  simp only [Act.put, List.setIfInBounds_toArray, List.set_cons_zero, List.set_cons_succ]
  refine wpAnyH_take (i := 34) (oi := { dst := some 40, op := _, type := _, pos := _, after := _, guard := _ }) (v := ?v1_34) rfl (by kernel_rfl) (by kernel_rfl) (by kernel_rfl) (fun _ _ _ h => h) (Or.inl ⟨by rfl, ?hy1_34⟩) hHeld ?_
  case hy1_34 => (intro w hSw; obtain ⟨s0, s1, s2, s3, s4, s5, s6, s7, s8, s9, s10, s11, s12, s13⟩ := RW.out _ hSw; go_simp; try with_reducible rfl)
  simp only [Act.put, List.setIfInBounds_toArray, List.set_cons_zero, List.set_cons_succ]
  refine wpAnyH_ready (rs := [37]) (by kernel_rfl) (by simp) ?_
  refine AllReadyH.cons (o := { dst := some 43, op := _, type := _, pos := _, after := _, guard := _ }) rfl (fun K hK => ?_) AllReadyH.nil
  go_simp
  go_at_call 39
  refine (Hr.out _).mono ?_
  rintro e37 u37 ⟨rfl, rfl⟩
  refine hK.out _ _ hS.out (fun hHeld => ?_)
  clear hK K
  refine wpAnyH_take (i := 38) (oi := { dst := some 44, op := _, type := _, pos := _, after := _, guard := _ }) (v := ?v1_38) rfl (by kernel_rfl) (by kernel_rfl) (by kernel_rfl) (fun _ _ _ h => h) (Or.inl ⟨by rfl, ?hy1_38⟩) hHeld ?_
  case hy1_38 => (intro w hSw; obtain ⟨s0, s1, s2, s3, s4, s5, s6, s7, s8, s9, s10, s11, s12, s13⟩ := RW.out _ hSw; go_simp; try with_reducible rfl)
  simp only [Act.put, List.setIfInBounds_toArray, List.set_cons_zero, List.set_cons_succ]
  refine wpAnyH_ready (rs := [39]) (by kernel_rfl) (by simp) ?_
  refine AllReadyH.cons (o := { dst := some 3, op := _, type := _, pos := _, after := _, guard := _ }) rfl (fun K hK => ?_) AllReadyH.nil
  go_simp
  refine hK.out _ _ hS.out (fun hHeld => ?_)
  clear hK K
  refine wpAnyH_done (by kernel_rfl) ?_ _
  clear add1 add2 add3 add4 add5 add6 add7 add8 add9 add10 add11 add12 add13 add14 add15 Hm Hd HN Hw HK Hr
  subst eD
  obtain ⟨A1, cap1, en1, _, _, QC⟩ := XC.out
  injection en1 with en1 en2 en3
  subst en1 en3
  clear en2
  replace QC := Lib.hid QC
  obtain ⟨A2, cap2, en2, _, _, QO⟩ := XO.out
  injection en2 with en1 en2 en3
  subst en1 en3
  clear en2
  replace QO := Lib.hid QO
  obtain ⟨s0, s1, s2, s3, s4, s5, s6, s7, s8, s9, s10, s11, s12, s13⟩ := RW.out _ hS.out
  clear s0 s1 s2 s3 s4 s5 s7 s8 s9 s10 s11 s12 s13
  by_cases c3 : eki = 3
  · subst c3
    obtain ⟨q1, q2⟩ := hf rfl
    have b1 := itB_size q1
    have b2 := itB_size q2
    have Hm := Lib.hid (fun u : World => r26tnu q1 u)
    have Hd := Lib.hid (fun u : World => r26tnu q2 u)
    have eFr : FR = wFm ++ (itB efm ++ (wSp ++ itB efd)) := by rw [eFR]; unfold txFr; simp only [if_true]
    clear hf q1 q2 zfr eFR
    generalize itB efm = tm at *
    generalize itB efd = td at *
    have y2 : (⟨#[32]⟩ : ByteArray).size = 1 := rfl
    have y3 : (⟨#[32, 102, 114, 111, 109, 32]⟩ : ByteArray).size = 6 := rfl
    obtain ⟨f1, ef1⟩ : ∃ d, d = d15 ++ (⟨#[32, 102, 114, 111, 109, 32]⟩ : ByteArray) := ⟨_, rfl⟩
    have zf1 : f1.size ≤ 706 := by rw [ef1, ByteArray.size_append]; omega
    have add1 : ∀ u : World, (Op.stringOp .add d15 (⟨#[32, 102, 114, 111, 109, 32]⟩ : ByteArray)).run Tryz.prog u = .ok (.string f1) u := fun u => by rw [ef1]; exact sadd (by omega) u
    obtain ⟨f2, ef2⟩ : ∃ d, d = f1 ++ tm := ⟨_, rfl⟩
    have zf2 : f2.size ≤ 717 := by rw [ef2, ByteArray.size_append]; omega
    have add2 : ∀ u : World, (Op.stringOp .add f1 tm).run Tryz.prog u = .ok (.string f2) u := fun u => by rw [ef2]; exact sadd (by omega) u
    obtain ⟨f3, ef3⟩ : ∃ d, d = f2 ++ (⟨#[32]⟩ : ByteArray) := ⟨_, rfl⟩
    have zf3 : f3.size ≤ 718 := by rw [ef3, ByteArray.size_append]; omega
    have add3 : ∀ u : World, (Op.stringOp .add f2 (⟨#[32]⟩ : ByteArray)).run Tryz.prog u = .ok (.string f3) u := fun u => by rw [ef3]; exact sadd (by omega) u
    obtain ⟨f4, ef4⟩ : ∃ d, d = f3 ++ td := ⟨_, rfl⟩
    have zf4 : f4.size ≤ 729 := by rw [ef4, ByteArray.size_append]; omega
    have add4 : ∀ u : World, (Op.stringOp .add f3 td).run Tryz.prog u = .ok (.string f4) u := fun u => by rw [ef4]; exact sadd (by omega) u
    have eG : d15 ++ (wFm ++ (tm ++ (wSp ++ td))) = f4 := by
      have q1 : (⟨#[32, 102, 114, 111, 109, 32]⟩ : ByteArray) = wFm := rfl
      have q2 : (⟨#[32]⟩ : ByteArray) = wSp := rfl
      rw [ef4, ef3, ef2, ef1, q1, q2]
      simp only [ByteArray.append_assoc]
    rw [← eFr] at eG
    have zG : f4.size ≤ 729 := zf4
    replace eG := Lib.hid eG
    clear eFr ef1 ef2 ef3 ef4 zf1 zf2 zf3 zf4 b1 b2 y2 y3 zH
    go_wp2_with fail
    clear s6
    refine wp_region_held_drew (S := fun u => Below w0.heap.size w0 u) (by kernel_rfl) (below_dn hS.out 1) (fun hHeld => ?_)
    refine wpAnyH_take (i := 0) (oi := { dst := some 48, op := _, type := _, pos := _, after := _, guard := _ }) (v := ?v2_0) rfl (by kernel_rfl) (by kernel_rfl) (by kernel_rfl) (fun _ _ _ h => h) (Or.inl ⟨by rfl, ?hy2_0⟩) hHeld ?_
    case hy2_0 => (intro w hSw; obtain ⟨s0, s1, s2, s3, s4, s5, s6, s7, s8, s9, s10, s11, s12, s13⟩ := RW.out _ hSw; go_simp; try with_reducible rfl)
    simp only [Act.put, List.setIfInBounds_toArray, List.set_cons_zero, List.set_cons_succ]
    refine wpAnyH_take (i := 1) (oi := { dst := some 49, op := _, type := _, pos := _, after := _, guard := _ }) (v := ?v2_1) rfl (by kernel_rfl) (by kernel_rfl) (by kernel_rfl) (fun _ _ _ h => h) (Or.inl ⟨by rfl, ?hy2_1⟩) hHeld ?_
    case hy2_1 => (intro w hSw; obtain ⟨s0, s1, s2, s3, s4, s5, s6, s7, s8, s9, s10, s11, s12, s13⟩ := RW.out _ hSw; go_simp; try with_reducible rfl)
    simp only [Act.put, List.setIfInBounds_toArray, List.set_cons_zero, List.set_cons_succ]
    refine wpAnyH_take (i := 2) (oi := { dst := some 50, op := _, type := _, pos := _, after := _, guard := _ }) (v := ?v2_2) rfl (by kernel_rfl) (by kernel_rfl) (by kernel_rfl) (fun _ _ _ h => h) (Or.inl ⟨by rfl, ?hy2_2⟩) hHeld ?_
    case hy2_2 => (intro w hSw; obtain ⟨s0, s1, s2, s3, s4, s5, s6, s7, s8, s9, s10, s11, s12, s13⟩ := RW.out _ hSw; go_simp; try with_reducible rfl)
    simp only [Act.put, List.setIfInBounds_toArray, List.set_cons_zero, List.set_cons_succ]
    refine wpAnyH_take (i := 3) (oi := { dst := some 51, op := _, type := _, pos := _, after := _, guard := _ }) (v := ?v2_3) rfl (by kernel_rfl) (by kernel_rfl) (by kernel_rfl) (fun _ _ _ h => h) (Or.inl ⟨by rfl, ?hy2_3⟩) hHeld ?_
    case hy2_3 => (intro w hSw; obtain ⟨s0, s1, s2, s3, s4, s5, s6, s7, s8, s9, s10, s11, s12, s13⟩ := RW.out _ hSw; go_simp; try with_reducible rfl)
    simp only [Act.put, List.setIfInBounds_toArray, List.set_cons_zero, List.set_cons_succ]
    refine wpAnyH_take (i := 4) (oi := { dst := some 52, op := _, type := _, pos := _, after := _, guard := _ }) (v := ?v2_4) rfl (by kernel_rfl) (by kernel_rfl) (by kernel_rfl) (fun _ _ _ h => h) (Or.inl ⟨by rfl, ?hy2_4⟩) hHeld ?_
    case hy2_4 => (intro w hSw; obtain ⟨s0, s1, s2, s3, s4, s5, s6, s7, s8, s9, s10, s11, s12, s13⟩ := RW.out _ hSw; go_simp; try with_reducible rfl)
    simp only [Act.put, List.setIfInBounds_toArray, List.set_cons_zero, List.set_cons_succ]
    refine wpAnyH_take (i := 8) (oi := { dst := some 56, op := _, type := _, pos := _, after := _, guard := _ }) (v := ?v2_8) rfl (by kernel_rfl) (by kernel_rfl) (by kernel_rfl) (fun _ _ _ h => h) (Or.inl ⟨by rfl, ?hy2_8⟩) hHeld ?_
    case hy2_8 => (intro w hSw; obtain ⟨s0, s1, s2, s3, s4, s5, s6, s7, s8, s9, s10, s11, s12, s13⟩ := RW.out _ hSw; go_simp; try with_reducible rfl)
    simp only [Act.put, List.setIfInBounds_toArray, List.set_cons_zero, List.set_cons_succ]
    refine wpAnyH_take (i := 9) (oi := { dst := some 57, op := _, type := _, pos := _, after := _, guard := _ }) (v := ?v2_9) rfl (by kernel_rfl) (by kernel_rfl) (by kernel_rfl) (fun _ _ _ h => h) (Or.inl ⟨by rfl, ?hy2_9⟩) hHeld ?_
    case hy2_9 => (intro w hSw; obtain ⟨s0, s1, s2, s3, s4, s5, s6, s7, s8, s9, s10, s11, s12, s13⟩ := RW.out _ hSw; go_simp; try with_reducible rfl)
    simp only [Act.put, List.setIfInBounds_toArray, List.set_cons_zero, List.set_cons_succ]
    refine wpAnyH_take (i := 10) (oi := { dst := some 58, op := _, type := _, pos := _, after := _, guard := _ }) (v := ?v2_10) rfl (by kernel_rfl) (by kernel_rfl) (by kernel_rfl) (fun _ _ _ h => h) (Or.inl ⟨by rfl, ?hy2_10⟩) hHeld ?_
    case hy2_10 => (intro w hSw; obtain ⟨s0, s1, s2, s3, s4, s5, s6, s7, s8, s9, s10, s11, s12, s13⟩ := RW.out _ hSw; go_simp; try with_reducible rfl)
    simp only [Act.put, List.setIfInBounds_toArray, List.set_cons_zero, List.set_cons_succ]
    obtain ⟨we, hwe⟩ : ∃ we, we = wd.drew := ⟨_, rfl⟩
    rw [← hwe] at hHeld ⊢
    clear hwe
    have hS := Lib.hid hHeld
    refine wpAnyH_ready (rs := [5]) (by kernel_rfl) (by simp) ?_
    refine AllReadyH.cons (o := { dst := some 53, op := _, type := _, pos := _, after := _, guard := _ }) rfl (fun K hK => ?_) AllReadyH.nil
    go_simp
    go_at_call 39
    refine (Hm.out _).mono ?_
    rintro e5 u5 ⟨rfl, rfl⟩
    refine hK.out _ _ hS.out (fun hHeld => ?_)
    clear hK K
    refine wpAnyH_take (i := 6) (oi := { dst := some 54, op := _, type := _, pos := _, after := _, guard := _ }) (v := ?v2_6) rfl (by kernel_rfl) (by kernel_rfl) (by kernel_rfl) (fun _ _ _ h => h) (Or.inl ⟨by rfl, ?hy2_6⟩) hHeld ?_
    case hy2_6 => (intro w hSw; obtain ⟨s0, s1, s2, s3, s4, s5, s6, s7, s8, s9, s10, s11, s12, s13⟩ := RW.out _ hSw; go_simp; try with_reducible rfl)
    simp only [Act.put, List.setIfInBounds_toArray, List.set_cons_zero, List.set_cons_succ]
    refine wpAnyH_take (i := 7) (oi := { dst := some 55, op := _, type := _, pos := _, after := _, guard := _ }) (v := ?v2_7) rfl (by kernel_rfl) (by kernel_rfl) (by kernel_rfl) (fun _ _ _ h => h) (Or.inl ⟨by rfl, ?hy2_7⟩) hHeld ?_
    case hy2_7 => (intro w hSw; obtain ⟨s0, s1, s2, s3, s4, s5, s6, s7, s8, s9, s10, s11, s12, s13⟩ := RW.out _ hSw; go_simp; try with_reducible rfl)
    simp only [Act.put, List.setIfInBounds_toArray, List.set_cons_zero, List.set_cons_succ]
    refine wpAnyH_ready (rs := [11]) (by kernel_rfl) (by simp) ?_
    refine AllReadyH.cons (o := { dst := some 59, op := _, type := _, pos := _, after := _, guard := _ }) rfl (fun K hK => ?_) AllReadyH.nil
    go_simp
    go_at_call 39
    refine (Hd.out _).mono ?_
    rintro e11 u11 ⟨rfl, rfl⟩
    refine hK.out _ _ hS.out (fun hHeld => ?_)
    clear hK K
    refine wpAnyH_take (i := 12) (oi := { dst := some 60, op := _, type := _, pos := _, after := _, guard := _ }) (v := ?v2_12) rfl (by kernel_rfl) (by kernel_rfl) (by kernel_rfl) (fun _ _ _ h => h) (Or.inl ⟨by rfl, ?hy2_12⟩) hHeld ?_
    case hy2_12 => (intro w hSw; obtain ⟨s0, s1, s2, s3, s4, s5, s6, s7, s8, s9, s10, s11, s12, s13⟩ := RW.out _ hSw; go_simp; try with_reducible rfl)
    simp only [Act.put, List.setIfInBounds_toArray, List.set_cons_zero, List.set_cons_succ]
    refine wpAnyH_ready (rs := [13]) (by kernel_rfl) (by simp) ?_
    refine AllReadyH.cons (o := { dst := some 3, op := _, type := _, pos := _, after := _, guard := _ }) rfl (fun K hK => ?_) AllReadyH.nil
    go_simp
    refine hK.out _ _ hS.out (fun hHeld => ?_)
    clear hK K
    refine wpAnyH_done (by kernel_rfl) ?_ _
    clear add1 add2 add3 add4 Hm Hd
    obtain ⟨G, eGG⟩ : ∃ G, G = f4 := ⟨_, rfl⟩
    rw [← eGG] at zG eG ⊢
    clear eGG
    try go_wp2_with fail
    go_loopw [3, 4] (fun s i wr => ∃ k : Nat, k ≤ eco.length ∧ i = .int .i64 k ∧ s = .string (G ++ txs2 wWi (eco.take k)) ∧ Below w0.heap.size w0 wr) (fun _ i _ => eco.length - (intOf i).toNat)
    case atStart => exact ⟨0, Nat.zero_le _, rfl, by rw [List.take_zero]; show _ = Value.string (G ++ ByteArray.empty); rw [ByteArray.append_empty], hS.out⟩
    case round =>
      obtain ⟨k, hk, rfl, rfl, hb⟩ := hrel
      obtain ⟨s0, s1, s2, s3, s4, s5, s6, s7, s8, s9, s10, s11, s12, s13⟩ := RW.out _ hb
      clear s0 s1 s2 s3 s4 s5 s6 s7 s8 s9 s10 s11
      have zt : (txs2 wWi (eco.take k)).size ≤ 49000 := Nat.le_trans (hcl.out k) (by rw [List.length_take]; omega)
      by_cases hlt : k < eco.length
      · obtain ⟨s, hs⟩ : ∃ s, eco[k]? = some s := ⟨_, List.getElem?_eq_getElem hlt⟩
        obtain ⟨b1, o1, rfl, l1, g1⟩ := QC.out k s hs
        have k1 := (hb.cell l1).trans g1
        have zs := hci.out s (List.mem_of_getElem? hs)
        have htk := txs2_take wWi eco k s hs
        generalize txs2 wWi (eco.take k) = T at *
        have y1 : (⟨#[32, 119, 105, 116, 104, 32]⟩ : ByteArray).size = 6 := rfl
        have zg := zG
        have y2 : (G ++ T).size ≤ 729 + 49000 := by rw [ByteArray.size_append]; omega
        obtain ⟨t1, et1⟩ : ∃ t, t = (G ++ T) ++ (⟨#[32, 119, 105, 116, 104, 32]⟩ : ByteArray) := ⟨_, rfl⟩
        have zt1 : t1.size ≤ 729 + 49100 := by rw [et1, ByteArray.size_append]; omega
        have add1 : ∀ u : World, (Op.stringOp .add (G ++ T) (⟨#[32, 119, 105, 116, 104, 32]⟩ : ByteArray)).run Tryz.prog u = .ok (.string t1) u := fun u => by rw [et1]; exact sadd (by omega) u
        obtain ⟨t2, et2⟩ : ∃ t, t = t1 ++ s := ⟨_, rfl⟩
        have add2 : ∀ u : World, (Op.stringOp .add t1 s).run Tryz.prog u = .ok (.string t2) u := fun u => by rw [et2]; exact sadd (by omega) u
        have eN : G ++ txs2 wWi (eco.take (k + 1)) = t2 := by
          have q : (⟨#[32, 119, 105, 116, 104, 32]⟩ : ByteArray) = wWi := rfl
          rw [htk, et2, et1, q]
          simp only [ByteArray.append_assoc]
        replace eN := Lib.hid eN
        have HB := Lib.hid hb
        clear htk et1 et2 zt1 y1 y2 zt zs hs l1 g1 hb zg
        go_wp2_with fail
        try go_region
        try go_wp2_with fail
        go_roundw
        case rel => exact ⟨k + 1, by omega, by go_num, by rw [eN.out], by first | exact HB.out | exact below_dn HB.out 1⟩
        case measure => simp [intOf]; omega
      · obtain rfl : k = eco.length := by omega
        rw [List.take_length] at zt ⊢
        obtain ⟨J, eJ⟩ : ∃ g, g = G ++ txs2 wWi eco := ⟨_, rfl⟩
        have zJ : J.size ≤ 729 + 49000 := by rw [eJ, ByteArray.size_append]; omega
        rw [← eJ]
        replace eJ := Lib.hid eJ
        clear zt hlt
        have HB2 := hb
        clear hb
        go_wp2_with fail
        clear s12 s13
        go_loopw [3, 5] (fun s i wr => ∃ k : Nat, k ≤ eom.length ∧ i = .int .i64 k ∧ s = .string (J ++ txs2 wWo (eom.take k)) ∧ Below w0.heap.size w0 wr) (fun _ i _ => eom.length - (intOf i).toNat)
        case atStart => exact ⟨0, Nat.zero_le _, rfl, by rw [List.take_zero]; show _ = Value.string (J ++ ByteArray.empty); rw [ByteArray.append_empty], HB2⟩
        case round =>
          obtain ⟨k, hk, rfl, rfl, hb⟩ := hrel
          obtain ⟨s0, s1, s2, s3, s4, s5, s6, s7, s8, s9, s10, s11, s12, s13⟩ := RW.out _ hb
          clear s0 s1 s2 s3 s4 s5 s6 s7 s8 s9 s10 s11
          have zt : (txs2 wWo (eom.take k)).size ≤ 49000 := Nat.le_trans (hol.out k) (by rw [List.length_take]; omega)
          by_cases hlt : k < eom.length
          · obtain ⟨s, hs⟩ : ∃ s, eom[k]? = some s := ⟨_, List.getElem?_eq_getElem hlt⟩
            obtain ⟨b1, o1, rfl, l1, g1⟩ := QO.out k s hs
            have k1 := (hb.cell l1).trans g1
            have zs := hoi.out s (List.mem_of_getElem? hs)
            have htk := txs2_take wWo eom k s hs
            generalize txs2 wWo (eom.take k) = T at *
            have y1 : (⟨#[32, 119, 105, 116, 104, 111, 117, 116, 32]⟩ : ByteArray).size = 9 := rfl
            have zg := zJ
            have y2 : (J ++ T).size ≤ 49729 + 49000 := by rw [ByteArray.size_append]; omega
            obtain ⟨t1, et1⟩ : ∃ t, t = (J ++ T) ++ (⟨#[32, 119, 105, 116, 104, 111, 117, 116, 32]⟩ : ByteArray) := ⟨_, rfl⟩
            have zt1 : t1.size ≤ 49729 + 49100 := by rw [et1, ByteArray.size_append]; omega
            have add1 : ∀ u : World, (Op.stringOp .add (J ++ T) (⟨#[32, 119, 105, 116, 104, 111, 117, 116, 32]⟩ : ByteArray)).run Tryz.prog u = .ok (.string t1) u := fun u => by rw [et1]; exact sadd (by omega) u
            obtain ⟨t2, et2⟩ : ∃ t, t = t1 ++ s := ⟨_, rfl⟩
            have add2 : ∀ u : World, (Op.stringOp .add t1 s).run Tryz.prog u = .ok (.string t2) u := fun u => by rw [et2]; exact sadd (by omega) u
            have eN : J ++ txs2 wWo (eom.take (k + 1)) = t2 := by
              have q : (⟨#[32, 119, 105, 116, 104, 111, 117, 116, 32]⟩ : ByteArray) = wWo := rfl
              rw [htk, et2, et1, q]
              simp only [ByteArray.append_assoc]
            replace eN := Lib.hid eN
            have HB := Lib.hid hb
            clear htk et1 et2 zt1 y1 y2 zt zs hs l1 g1 hb zg
            go_wp2_with fail
            try go_region
            try go_wp2_with fail
            go_roundw
            case rel => exact ⟨k + 1, by omega, by go_num, by rw [eN.out], by first | exact HB.out | exact below_dn HB.out 1⟩
            case measure => simp [intOf]; omega
          · obtain rfl : k = eom.length := by omega
            rw [List.take_length] at zt ⊢
            obtain ⟨M, eM⟩ : ∃ g, g = J ++ txs2 wWo eom := ⟨_, rfl⟩
            have zM : M.size ≤ 49729 + 49000 := by rw [eM, ByteArray.size_append]; omega
            rw [← eM]
            replace eM := Lib.hid eM
            clear zt hlt
            go_wp2_with fail
            go_ret
            exact ⟨by rw [eM.out, eJ.out, eG.out]; rfl, (by have b := B0.out; rw [← hP] at b; exact below_on b hb)⟩
  · have eFr : FR = ByteArray.empty := by rw [eFR]; unfold txFr; rw [if_neg c3]
    have eG : d15 ++ FR = d15 := by rw [eFr, ByteArray.append_empty]
    clear eFr hf zfr eFR
    have cb : (eki == 3) = false := beq_eq_false_iff_ne.2 c3
    have zG : d15.size ≤ 729 := by omega
    replace eG := Lib.hid eG
    clear zH c3
    go_wp2_with fail
    clear s6
    go_loopw [3, 4] (fun s i wr => ∃ k : Nat, k ≤ eco.length ∧ i = .int .i64 k ∧ s = .string (d15 ++ txs2 wWi (eco.take k)) ∧ Below w0.heap.size w0 wr) (fun _ i _ => eco.length - (intOf i).toNat)
    case atStart => exact ⟨0, Nat.zero_le _, rfl, by rw [List.take_zero]; show _ = Value.string (d15 ++ ByteArray.empty); rw [ByteArray.append_empty], hS.out⟩
    case round =>
      obtain ⟨k, hk, rfl, rfl, hb⟩ := hrel
      obtain ⟨s0, s1, s2, s3, s4, s5, s6, s7, s8, s9, s10, s11, s12, s13⟩ := RW.out _ hb
      clear s0 s1 s2 s3 s4 s5 s6 s7 s8 s9 s10 s11
      have zt : (txs2 wWi (eco.take k)).size ≤ 49000 := Nat.le_trans (hcl.out k) (by rw [List.length_take]; omega)
      by_cases hlt : k < eco.length
      · obtain ⟨s, hs⟩ : ∃ s, eco[k]? = some s := ⟨_, List.getElem?_eq_getElem hlt⟩
        obtain ⟨b1, o1, rfl, l1, g1⟩ := QC.out k s hs
        have k1 := (hb.cell l1).trans g1
        have zs := hci.out s (List.mem_of_getElem? hs)
        have htk := txs2_take wWi eco k s hs
        generalize txs2 wWi (eco.take k) = T at *
        have y1 : (⟨#[32, 119, 105, 116, 104, 32]⟩ : ByteArray).size = 6 := rfl
        have zg := zG
        have y2 : (d15 ++ T).size ≤ 729 + 49000 := by rw [ByteArray.size_append]; omega
        obtain ⟨t1, et1⟩ : ∃ t, t = (d15 ++ T) ++ (⟨#[32, 119, 105, 116, 104, 32]⟩ : ByteArray) := ⟨_, rfl⟩
        have zt1 : t1.size ≤ 729 + 49100 := by rw [et1, ByteArray.size_append]; omega
        have add1 : ∀ u : World, (Op.stringOp .add (d15 ++ T) (⟨#[32, 119, 105, 116, 104, 32]⟩ : ByteArray)).run Tryz.prog u = .ok (.string t1) u := fun u => by rw [et1]; exact sadd (by omega) u
        obtain ⟨t2, et2⟩ : ∃ t, t = t1 ++ s := ⟨_, rfl⟩
        have add2 : ∀ u : World, (Op.stringOp .add t1 s).run Tryz.prog u = .ok (.string t2) u := fun u => by rw [et2]; exact sadd (by omega) u
        have eN : d15 ++ txs2 wWi (eco.take (k + 1)) = t2 := by
          have q : (⟨#[32, 119, 105, 116, 104, 32]⟩ : ByteArray) = wWi := rfl
          rw [htk, et2, et1, q]
          simp only [ByteArray.append_assoc]
        replace eN := Lib.hid eN
        have HB := Lib.hid hb
        clear htk et1 et2 zt1 y1 y2 zt zs hs l1 g1 hb zg
        go_wp2_with fail
        try go_region
        try go_wp2_with fail
        go_roundw
        case rel => exact ⟨k + 1, by omega, by go_num, by rw [eN.out], by first | exact HB.out | exact below_dn HB.out 1⟩
        case measure => simp [intOf]; omega
      · obtain rfl : k = eco.length := by omega
        rw [List.take_length] at zt ⊢
        obtain ⟨J, eJ⟩ : ∃ g, g = d15 ++ txs2 wWi eco := ⟨_, rfl⟩
        have zJ : J.size ≤ 729 + 49000 := by rw [eJ, ByteArray.size_append]; omega
        rw [← eJ]
        replace eJ := Lib.hid eJ
        clear zt hlt
        have HB2 := hb
        clear hb
        go_wp2_with fail
        clear s12 s13
        go_loopw [3, 5] (fun s i wr => ∃ k : Nat, k ≤ eom.length ∧ i = .int .i64 k ∧ s = .string (J ++ txs2 wWo (eom.take k)) ∧ Below w0.heap.size w0 wr) (fun _ i _ => eom.length - (intOf i).toNat)
        case atStart => exact ⟨0, Nat.zero_le _, rfl, by rw [List.take_zero]; show _ = Value.string (J ++ ByteArray.empty); rw [ByteArray.append_empty], HB2⟩
        case round =>
          obtain ⟨k, hk, rfl, rfl, hb⟩ := hrel
          obtain ⟨s0, s1, s2, s3, s4, s5, s6, s7, s8, s9, s10, s11, s12, s13⟩ := RW.out _ hb
          clear s0 s1 s2 s3 s4 s5 s6 s7 s8 s9 s10 s11
          have zt : (txs2 wWo (eom.take k)).size ≤ 49000 := Nat.le_trans (hol.out k) (by rw [List.length_take]; omega)
          by_cases hlt : k < eom.length
          · obtain ⟨s, hs⟩ : ∃ s, eom[k]? = some s := ⟨_, List.getElem?_eq_getElem hlt⟩
            obtain ⟨b1, o1, rfl, l1, g1⟩ := QO.out k s hs
            have k1 := (hb.cell l1).trans g1
            have zs := hoi.out s (List.mem_of_getElem? hs)
            have htk := txs2_take wWo eom k s hs
            generalize txs2 wWo (eom.take k) = T at *
            have y1 : (⟨#[32, 119, 105, 116, 104, 111, 117, 116, 32]⟩ : ByteArray).size = 9 := rfl
            have zg := zJ
            have y2 : (J ++ T).size ≤ 49729 + 49000 := by rw [ByteArray.size_append]; omega
            obtain ⟨t1, et1⟩ : ∃ t, t = (J ++ T) ++ (⟨#[32, 119, 105, 116, 104, 111, 117, 116, 32]⟩ : ByteArray) := ⟨_, rfl⟩
            have zt1 : t1.size ≤ 49729 + 49100 := by rw [et1, ByteArray.size_append]; omega
            have add1 : ∀ u : World, (Op.stringOp .add (J ++ T) (⟨#[32, 119, 105, 116, 104, 111, 117, 116, 32]⟩ : ByteArray)).run Tryz.prog u = .ok (.string t1) u := fun u => by rw [et1]; exact sadd (by omega) u
            obtain ⟨t2, et2⟩ : ∃ t, t = t1 ++ s := ⟨_, rfl⟩
            have add2 : ∀ u : World, (Op.stringOp .add t1 s).run Tryz.prog u = .ok (.string t2) u := fun u => by rw [et2]; exact sadd (by omega) u
            have eN : J ++ txs2 wWo (eom.take (k + 1)) = t2 := by
              have q : (⟨#[32, 119, 105, 116, 104, 111, 117, 116, 32]⟩ : ByteArray) = wWo := rfl
              rw [htk, et2, et1, q]
              simp only [ByteArray.append_assoc]
            replace eN := Lib.hid eN
            have HB := Lib.hid hb
            clear htk et1 et2 zt1 y1 y2 zt zs hs l1 g1 hb zg
            go_wp2_with fail
            try go_region
            try go_wp2_with fail
            go_roundw
            case rel => exact ⟨k + 1, by omega, by go_num, by rw [eN.out], by first | exact HB.out | exact below_dn HB.out 1⟩
            case measure => simp [intOf]; omega
          · obtain rfl : k = eom.length := by omega
            rw [List.take_length] at zt ⊢
            obtain ⟨M, eM⟩ : ∃ g, g = J ++ txs2 wWo eom := ⟨_, rfl⟩
            have zM : M.size ≤ 49729 + 49000 := by rw [eM, ByteArray.size_append]; omega
            rw [← eM]
            replace eM := Lib.hid eM
            clear zt hlt
            go_wp2_with fail
            go_ret
            exact ⟨by rw [eM.out, eJ.out, eG.out]; rfl, (by have b := B0.out; rw [← hP] at b; exact below_on b hb)⟩
end
section
open Go.RowKit

set_option maxRecDepth 100000 in
set_option maxHeartbeats 8000000 in
theorem r27pri {yr : Int} {es : List Ent} {v : Value} {l : List Enz} {w : World} (h : KlAt w v l) (hl : l.map Enz.e = es) (ho : okK ⟨yr, es⟩ = true) (n1 : l.length ≤ 400) (n2 : sumE es ≤ 500) :
    Calls Tryz.prog 17 #[.agg #[.int .i64 yr, v]] w fun e w' => e = .returned (.string (txK ⟨yr, es⟩)) ∧ Below w.heap.size w w' := by
  have hz := txK_le ho (by show es.length ≤ 400; rw [← hl, List.length_map]; exact n1) n2
  have hs1 := (txK_size ⟨yr, es⟩).1
  simp only at hs1
  obtain ⟨A, cap, rfl, _, _, a1⟩ := h
  have hlen : l.length = es.length := by rw [← hl, List.length_map]
  unfold okK at ho
  rw [Bool.and_eq_true] at ho
  have hoe := List.all_eq_true.1 ho.2
  have hy := ho.1
  simp only at hoe hy
  have HG := Lib.hid (fun (k : Nat) (z : Enz) (hk : l[k]? = some z) => (show es[k]? = some z.e by rw [← hl, List.getElem?_map, hk]; rfl))
  have HO := Lib.hid (fun (k : Nat) (z : Enz) (hk : l[k]? = some z) => (⟨hoe z.e (by rw [← hl]; exact List.mem_map.2 ⟨z, List.mem_of_getElem? hk, rfl⟩), by have := sumE_mem l z (List.mem_of_getElem? hk); rw [hl] at this; omega⟩ : okE yr z.e = true ∧ z.e.co.length + z.e.om.length ≤ 500))
  have HZ := Lib.hid (show (txEs es).size ≤ 98000 by omega)
  replace hlen := Lib.hid hlen
  have zf := itB_size hy
  have HF := Lib.hid (fun u : World => r26tnu hy u)
  clear ho hoe hl n2 hz hs1 hy
  obtain ⟨w0, hw0⟩ : ∃ u, u = w.alloc (.cells #[.int .i64 yr, .slice A l.length cap] 25) := ⟨_, rfl⟩
  have B0 : Below w.heap.size w w0 := hw0 ▸ al1 w _
  have R0 : w0.heap[w.heap.size]? = some (.cells #[.int .i64 yr, .slice A l.length cap] 25 (0, 0)) := hw0 ▸ heap_alloc_new w _
  have Q := Lib.hid a1
  have KL := Lib.hid (show KlAt w (.slice A l.length cap) l from ⟨A, cap, rfl, by assumption, by assumption, a1⟩)
  clear a1
  have RB := Lib.hid (fun (u : World) (h : Below w0.heap.size w0 u) => (show u.cell? ⟨w.heap.size, 1, none⟩ = some (.slice A l.length cap) by rw [cell_of_row _ _ _ _ _ _ (row_kept R0 h)]; rfl))
  have BW := Lib.hid (fun (u : World) (h : Below w0.heap.size w0 u) => below_on B0 h)
  have g0 : w0.cell? ⟨w.heap.size, 0, none⟩ = some (.int .i64 yr) := by rw [cell_of_row _ _ _ _ _ _ R0]; rfl
  have y1 : (⟨#[99, 97, 108, 101, 110, 100, 97, 114, 32]⟩ : ByteArray).size = 9 := rfl
  have y2 : (⟨#[10]⟩ : ByteArray).size = 1 := rfl
  obtain ⟨d1, ed1⟩ : ∃ d, d = (⟨#[99, 97, 108, 101, 110, 100, 97, 114, 32]⟩ : ByteArray) ++ itB yr := ⟨_, rfl⟩
  have zd1 : d1.size ≤ 20 := by rw [ed1, ByteArray.size_append]; omega
  have add1 : ∀ u : World, (Op.stringOp .add (⟨#[99, 97, 108, 101, 110, 100, 97, 114, 32]⟩ : ByteArray) (itB yr)).run Tryz.prog u = .ok (.string d1) u := fun u => by rw [ed1]; exact sadd (by omega) u
  obtain ⟨H, eH⟩ : ∃ d, d = d1 ++ (⟨#[10]⟩ : ByteArray) := ⟨_, rfl⟩
  have hH : H.size ≤ 21 := by rw [eH, ByteArray.size_append]; omega
  have add2 : ∀ u : World, (Op.stringOp .add d1 (⟨#[10]⟩ : ByteArray)).run Tryz.prog u = .ok (.string H) u := fun u => by rw [eH]; exact sadd (by omega) u
  have eK : txK ⟨yr, es⟩ = (H ++ txEs es) ++ (⟨#[101, 110, 100, 10]⟩ : ByteArray) := by
    have q1 : (⟨#[99, 97, 108, 101, 110, 100, 97, 114, 32]⟩ : ByteArray) = wCl := rfl
    have q2 : (⟨#[10]⟩ : ByteArray) = wLf := rfl
    have q3 : (⟨#[101, 110, 100, 10]⟩ : ByteArray) = wEnd := rfl
    rw [eH, ed1, q1, q2, q3]
    unfold txK
    simp only [ByteArray.append_assoc]
  rw [eK]
  clear eK eH ed1 zd1 zf y1
  generalize itB yr = ty at *
  go_enter Tryz.func17, Tryz.ntmps17
  go_wp2_with fail
  rw [← hw0]
  clear hw0
  have B0 := Lib.hid B0
  generalize hP : w.heap.size = P at *
  clear R0
  go_wp2_with (go_at_call 39; refine (HF.out _).mono ?_; rintro e w' ⟨rfl, rfl⟩)
  clear add1 add2 g0
  go_loopw [3, 4] (fun s i wr => ∃ k : Nat, k ≤ l.length ∧ i = .int .i64 k ∧ s = .string (H ++ txEs (es.take k)) ∧ Below w0.heap.size w0 wr) (fun _ i _ => l.length - (intOf i).toNat)
  case atStart => exact ⟨0, Nat.zero_le _, rfl, by rw [List.take_zero]; show _ = Value.string (H ++ ByteArray.empty); rw [ByteArray.append_empty], by first | exact Below.refl _ _ | exact below_dn (Below.refl _ _) 1⟩
  case round =>
    obtain ⟨k, hk, rfl, rfl, hb⟩ := hrel
    have rb := RB.out _ hb
    have zt : (txEs (es.take k)).size ≤ 98000 := Nat.le_trans (txEs_le es k) HZ.out
    by_cases hlt : k < l.length
    · obtain ⟨z, hzk⟩ : ∃ z, l[k]? = some z := ⟨_, List.getElem?_eq_getElem hlt⟩
      obtain ⟨⟨b1, o1, rfl, lt1, g1⟩, t1, t2⟩ := Q.out k z hzk
      obtain ⟨hoz, hnz⟩ := HO.out k z hzk
      have htk := (txEs_take es k z.e (HG.out k z hzk)).trans (congrArg _ (txL_txE z.e))
      have zl := txE_le hoz
      rw [txL_txE, ByteArray.size_append] at zl
      replace zl : (txL z.e).size ≤ 25000 := by omega
      have GC := Lib.hid (fun (u : World) (h : Below w0.heap.size w0 u) (j : Nat) (hj : j < 14) => ((BW.out _ h).cell (hP ▸ lt1)).trans (g1 j hj))
      obtain ⟨⟨ey, em, ed, ewd, ese, ewk, eki, epr, erk, efy, efm, efd, eco, eom⟩, vc, vo⟩ := z
      simp only at hoz hnz htk zl
      obtain ⟨ac, kc, rfl, -⟩ := (show TxAt w vc eco from t1)
      obtain ⟨ao, ko, rfl, -⟩ := (show TxAt w vo eom from t2)
      have HLn := Lib.hid (fun (u : World) (h : Below w0.heap.size w0 u) => r27lin (y := yr) (e := ⟨ey, em, ed, ewd, ese, ewk, eki, epr, erk, efy, efm, efd, eco, eom⟩) (t1.on (hP ▸ BW.out _ h)) (t2.on (hP ▸ BW.out _ h)) hoz (by show eco.length ≤ 1000; omega) (by show eom.length ≤ 1000; omega))
      clear g1 t1 t2 hzk hoz hnz lt1
      generalize txL ⟨ey, em, ed, ewd, ese, ewk, eki, epr, erk, efy, efm, efd, eco, eom⟩ = tl at *
      generalize txEs (es.take k) = T at *
      have y3 : (H ++ T).size ≤ 98021 := by rw [ByteArray.size_append]; omega
      obtain ⟨f1, ef1⟩ : ∃ d, d = (H ++ T) ++ tl := ⟨_, rfl⟩
      have zf1 : f1.size ≤ 400000 := by rw [ef1, ByteArray.size_append]; omega
      have add1 : ∀ u : World, (Op.stringOp .add (H ++ T) tl).run Tryz.prog u = .ok (.string f1) u := fun u => by rw [ef1]; exact sadd (by omega) u
      obtain ⟨f2, ef2⟩ : ∃ d, d = f1 ++ (⟨#[10]⟩ : ByteArray) := ⟨_, rfl⟩
      have add2 : ∀ u : World, (Op.stringOp .add f1 (⟨#[10]⟩ : ByteArray)).run Tryz.prog u = .ok (.string f2) u := fun u => by rw [ef2]; exact sadd (by omega) u
      have eN : H ++ txEs (es.take (k + 1)) = f2 := by
        have q : (⟨#[10]⟩ : ByteArray) = wLf := rfl
        rw [htk, ef2, ef1, q]
        simp only [ByteArray.append_assoc]
      replace eN := Lib.hid eN
      have hS := Lib.hid hb
      clear htk ef1 ef2 zf1 y3 zt zl hb
      have p0 := GC.out _ hS.out 0 (by omega)
      simp only [Enz.vals, List.getElem?_cons_zero, Nat.add_zero] at p0
      have p1 := GC.out _ hS.out 1 (by omega)
      simp only [Enz.vals, List.getElem?_cons_succ, List.getElem?_cons_zero] at p1
      have p2 := GC.out _ hS.out 2 (by omega)
      simp only [Enz.vals, List.getElem?_cons_succ, List.getElem?_cons_zero] at p2
      have p3 := GC.out _ hS.out 3 (by omega)
      simp only [Enz.vals, List.getElem?_cons_succ, List.getElem?_cons_zero] at p3
      have p4 := GC.out _ hS.out 4 (by omega)
      simp only [Enz.vals, List.getElem?_cons_succ, List.getElem?_cons_zero] at p4
      have p5 := GC.out _ hS.out 5 (by omega)
      simp only [Enz.vals, List.getElem?_cons_succ, List.getElem?_cons_zero] at p5
      have p6 := GC.out _ hS.out 6 (by omega)
      simp only [Enz.vals, List.getElem?_cons_succ, List.getElem?_cons_zero] at p6
      have p7 := GC.out _ hS.out 7 (by omega)
      simp only [Enz.vals, List.getElem?_cons_succ, List.getElem?_cons_zero] at p7
      have p8 := GC.out _ hS.out 8 (by omega)
      simp only [Enz.vals, List.getElem?_cons_succ, List.getElem?_cons_zero] at p8
      have p9 := GC.out _ hS.out 9 (by omega)
      simp only [Enz.vals, List.getElem?_cons_succ, List.getElem?_cons_zero] at p9
      have p10 := GC.out _ hS.out 10 (by omega)
      simp only [Enz.vals, List.getElem?_cons_succ, List.getElem?_cons_zero] at p10
      have p11 := GC.out _ hS.out 11 (by omega)
      simp only [Enz.vals, List.getElem?_cons_succ, List.getElem?_cons_zero] at p11
      have p12 := GC.out _ hS.out 12 (by omega)
      simp only [Enz.vals, List.getElem?_cons_succ, List.getElem?_cons_zero] at p12
      have p13 := GC.out _ hS.out 13 (by omega)
      simp only [Enz.vals, List.getElem?_cons_succ, List.getElem?_cons_zero] at p13
      go_wp2_with fail
      refine (HLn.out _ hS.out).mono ?_
      rintro e6 u6 ⟨rfl, b6⟩
      have hS := Lib.hid (below_on hS.out b6)
      clear b6 rb p0 p1 p2 p3 p4 p5 p6 p7 p8 p9 p10 p11 p12 p13
      go_wp2_with fail
      go_roundw
      case rel => exact ⟨k + 1, by omega, by go_num, by rw [eN.out], hS.out⟩
      case measure => simp [intOf]; omega
    · obtain rfl : k = l.length := by omega
      have et : es.take l.length = es := by rw [hlen.out, List.take_length]
      rw [et] at zt ⊢
      have y4 : (⟨#[101, 110, 100, 10]⟩ : ByteArray).size = 4 := rfl
      have addE := fun u : World => sadd (a := H ++ txEs es) (b := (⟨#[101, 110, 100, 10]⟩ : ByteArray)) (by rw [ByteArray.size_append]; omega) u
      clear et
      go_wp2_with fail
      go_ret
      exact ⟨rfl, (by have b := BW.out _ hb; rw [hP]; exact b)⟩
end
section
open Go.RowKit

section
variable {N : Nat} {k : Kal} (ho : okK k = true) (n1 : k.es.length ≤ N) (n2 : ∀ e ∈ k.es, e.co.length + e.om.length ≤ N)
include ho n1 n2
theorem kbody_all : kBody N (txK k) ⟨0, false⟩ = (k, ⟨(txK k).size, false⟩) :=
  kbody_co (S := txK k) (fun j hj => ⟨by omega, by rw [Nat.zero_add]⟩) ho n1 n2
theorem kend_co : kEnd N (txK k) = ⟨(txK k).size, false⟩ := by
  have e := kbody_all ho n1 n2
  unfold kEnd
  rw [e]
  show (⟨(txK k).size, feB false (txK k) (txK k).size⟩ : Sc) = _
  unfold feB
  rw [decide_eq_false (Nat.lt_irrefl _)]; rfl
theorem kend_agr {S : ByteArray} {i : Nat} (A : Agr S (txK k) i) (hk : i < (txK k).size) : kEnd N S = ⟨i, true⟩ := by
  have e := kbody_all ho n1 n2
  rcases kbody_sm A N ⟨0, false⟩ rfl (Nat.zero_le _) (by rw [e]) with ⟨a, _⟩ | ⟨_, b⟩
  · rw [e] at a
    exact absurd hk (by show ¬ i < (txK k).size; exact Nat.not_lt.2 a)
  · unfold kEnd
    rw [b]
    rfl
theorem kend_cut {i : Nat} (hk : i < (txK k).size) : kEnd N ((txK k).extract 0 i) = ⟨i, true⟩ := kend_agr ho n1 n2 (agr_cut (Nat.le_of_lt hk)) hk
theorem kend_ex {i : Nat} (hk : i < (txK k).size) (R : ByteArray) : kEnd N (((txK k).extract 0 i ++ wEx) ++ R) = ⟨i, true⟩ := kend_agr ho n1 n2 (agr_ex (Nat.le_of_lt hk) R) hk
end
theorem few_n {yr : Int} {l : List Enz} (h : l.length ≤ 400 ∧ sumE (l.map Enz.e) ≤ 500) : (Kal.mk yr (l.map Enz.e)).es.length ≤ 98100 ∧ ∀ e ∈ (Kal.mk yr (l.map Enz.e)).es, e.co.length + e.om.length ≤ 98100 := by
  refine ⟨by show (l.map Enz.e).length ≤ _; rw [List.length_map]; omega, fun e he => ?_⟩
  obtain ⟨z, hzl, rfl⟩ := List.mem_map.1 he
  have := sumE_mem l z hzl
  omega
/-- Parse, of a printed text. -/
theorem p27can {yr : Int} {l : List Enz} {w : World} (hT : T26 w) (h : l.length ≤ 400 ∧ sumE (l.map Enz.e) ≤ 500) (ho : okK ⟨yr, l.map Enz.e⟩ = true) :
    Calls Tryz.prog 9 #[.string (txK ⟨yr, l.map Enz.e⟩)] w fun e w' => ∃ v l', e = .returned (.tuple #[.agg #[.int .i64 yr, v], .int .i64 0, .int .i64 0]) ∧ KlAt w' v l' ∧ l'.map Enz.e = l.map Enz.e ∧ Below w.heap.size w w' := by
  obtain ⟨n1, n2⟩ := few_n (yr := yr) h
  have hz := (few_ok h ho).2.1
  have he : (kEnd 98100 (txK ⟨yr, l.map Enz.e⟩)).b = false := by rw [kend_co ho n1 n2]
  have := p27par_yes (S := txK ⟨yr, l.map Enz.e⟩) (N := 98100) (w := w) (by omega) (by omega) (by omega) hT.wk he
  rw [kbody_all ho n1 n2] at this
  exact this
theorem p27bad {S : ByteArray} {k : Nat} {w : World} (hT : T26 w) (hs : S.size ≤ 98001) (he : kEnd 98100 S = ⟨k, true⟩) :
    Calls Tryz.prog 9 #[.string S] w fun e w' => e = .returned (.tuple #[.agg #[.int .i64 0, .slice none 0 0], .int .i64 k, .int .i64 6]) ∧ Below w.heap.size w w' := by
  have := p27par_no (S := S) (N := 98100) (w := w) (by omega) (by omega) (by omega) hT.wk (by rw [he])
  rw [he] at this
  exact this
end
section
open Go.RowKit

set_option maxRecDepth 100000 in
set_option maxHeartbeats 4000000 in
theorem l27c_box (yr : Int) (l : List Enz) (A : Option Addr) (c : Nat) (W : World) (hT : T26 W) (h : KlAt W (.slice A l.length c) l) :
    Calls Tryz.prog 4 #[.agg #[.int .i64 yr, .slice A l.length c]] W fun e w' => e = .returned (.bool true) ∧ Below W.heap.size W w' := by
  have L0 := Lib.hid (KB.new (yr := yr) hT h)
  have HA := Lib.hid (fun (u : World) (h : T26 u) => c27awake_any u h)
  have HW := Lib.hid (fun (u : World) (h : KB W yr l A c u) => c27few (yr := yr) h.k)
  clear h
  obtain ⟨q0, q1⟩ := L0.out.cells
  go_enter Tryz.func4, Tryz.ntmps4
  go_wp2_with fail
  clear q0 q1
  refine (HA.out _ L0.out.t).mono ?_
  rintro e u1 ⟨rfl, hb⟩
  have L1 := Lib.hid (L0.out.on hb)
  clear hb
  obtain ⟨q0, q1⟩ := L1.out.cells
  go_wp2_with fail
  clear q0 q1
  refine (HW.out _ L1.out).mono ?_
  rintro e u2 ⟨hf, hb⟩
  have L2 := Lib.hid (L1.out.on hb)
  clear hb
  obtain ⟨q0, q1⟩ := L2.out.cells
  rcases hf with ⟨rfl, hf⟩ | rfl
  rotate_left
  · go_wp2_with fail
    clear q0 q1
    refine (HA.out _ L2.out.t).mono ?_
    rintro e u3 ⟨rfl, hb⟩
    have L3 := Lib.hid (L2.out.on hb)
    clear hb
    obtain ⟨q0, q1⟩ := L3.out.cells
    go_wp2_with fail
    go_ret
    exact ⟨rfl, L3.out.bl⟩
  obtain ⟨fi1, fi2⟩ := few_in hf
  have HR := Lib.hid (fun (u : World) (h : KB W yr l A c u) => r27prn_any (yr := yr) h.k fi1 fi2)
  have fok := fun ho => few_ok (yr := yr) hf ho
  clear fi2
  cases ho : okK ⟨yr, l.map Enz.e⟩
  · rw [ho] at HR
    clear fok ho
    go_wp2_with fail
    clear q0 q1
    refine (HR.out _ L2.out).mono ?_
    rintro e u3 ⟨rfl, hb⟩
    have L3 := Lib.hid (L2.out.on hb)
    clear hb
    obtain ⟨q0, q1⟩ := L3.out.cells
    go_wp2_with fail
    clear q0 q1
    refine (HA.out _ L3.out.t).mono ?_
    rintro e u4 ⟨rfl, hb⟩
    have L4 := Lib.hid (L3.out.on hb)
    clear hb
    obtain ⟨q0, q1⟩ := L4.out.cells
    go_wp2_with fail
    go_ret
    exact ⟨rfl, L4.out.bl⟩
  obtain ⟨oy, oz, ol, on⟩ := fok ho
  clear fok
  have HQ := Lib.hid (fun (u : World) (h : KB W yr l A c u) => p27pri (yr := yr) h.t h.k rfl oy ol (by omega) on)
  have HP := Lib.hid (fun (u : World) (h : T26 u) => p27can (yr := yr) (w := u) h hf ho)
  have HF := Lib.hid (fun (u : World) (h : KB W yr l A c u) => r27pri (yr := yr) h.k rfl ho hf.1 hf.2)
  have HO := Lib.hid (fun (k : Nat) (z : Enz) (hk : l[k]? = some z) => (⟨ol z.e (List.mem_map.2 ⟨z, List.mem_of_getElem? hk, rfl⟩), by
    unfold okK at ho
    rw [Bool.and_eq_true] at ho
    exact List.all_eq_true.1 ho.2 z.e (List.mem_map.2 ⟨z, List.mem_of_getElem? hk, rfl⟩), by have := sumE_mem l z (List.mem_of_getElem? hk); have := hf.2; omega⟩ : LnOk z.e ∧ okE yr z.e = true ∧ z.e.co.length + z.e.om.length ≤ 500))
  have HS := Lib.hid (fun (u : World) (v v' : Value) (l' : List Enz) (a : KlAt u v l) (b : KlAt u v' l') (he : l'.map Enz.e = l.map Enz.e) => r23same (yr := yr) a b he.symm (by have := hf.1; omega) (fun e he => by
    obtain ⟨z, hz, rfl⟩ := List.mem_map.1 he
    have := sumE_mem l z hz
    have := hf.2
    omega))
  have nl400 := hf.1
  rw [ho] at HR
  generalize txK ⟨yr, l.map Enz.e⟩ = S at *
  clear ol on ho oy hf fi1 oz
  go_wp2_with fail
  clear q0 q1
  refine (HR.out _ L2.out).mono ?_
  rintro e u3 ⟨rfl, hb⟩
  have L3 := Lib.hid (L2.out.on hb)
  clear hb
  obtain ⟨q0, q1⟩ := L3.out.cells
  go_wp2_with fail
  clear q0 q1
  refine (HQ.out _ L3.out).mono ?_
  rintro e u4 ⟨rfl, hb⟩
  have L4 := Lib.hid (L3.out.on hb)
  clear hb
  obtain ⟨q0, q1⟩ := L4.out.cells
  go_wp2_with fail
  clear q0 q1
  refine (HP.out _ L4.out.t).mono ?_
  rintro e u5 ⟨v5, l5, rfl, hK, he5, hb⟩
  have hK0 := hK
  obtain ⟨A5, c5, rfl, -⟩ := hK0
  have L5 := Lib.hid ((L4.out.on hb).on (al1 u5 (.cells #[.int .i64 yr, .slice A5 l5.length c5] 25)))
  have K5 := Lib.hid (hK.on (al1 u5 (.cells #[.int .i64 yr, .slice A5 l5.length c5] 25)))
  have R5 := heap_alloc_new u5 (.cells #[.int .i64 yr, .slice A5 l5.length c5] 25)
  have he5 := Lib.hid he5
  clear hK hb
  obtain ⟨q0, q1⟩ := L5.out.cells
  have k0 : (u5.alloc (.cells #[.int .i64 yr, .slice A5 l5.length c5] 25)).cell? ⟨u5.heap.size, 0, none⟩ = some (.int .i64 yr) := by rw [cell_of_row _ _ _ _ _ _ R5]; rfl
  have k1 : (u5.alloc (.cells #[.int .i64 yr, .slice A5 l5.length c5] 25)).cell? ⟨u5.heap.size, 1, none⟩ = some (.slice A5 l5.length c5) := by rw [cell_of_row _ _ _ _ _ _ R5]; rfl
  have R5 := Lib.hid R5
  go_wp2_with fail
  obtain ⟨U, hU⟩ : ∃ U, U = u5.alloc (.cells #[.int .i64 yr, .slice A5 l5.length c5] 25) := ⟨_, rfl⟩
  rw [← hU] at L5 K5 R5
  rw [← hU]
  clear hU k0 k1 q0 q1
  obtain ⟨A', cap', e0, _, _, a1⟩ := L5.out.k
  injection e0 with e1 e2 e3
  subst e1 e3
  have Q := Lib.hid a1
  clear a1 e2
  go_loopw [7] (fun i wr => ∃ k : Nat, k ≤ l.length ∧ i = .int .i64 k ∧ Below U.heap.size U wr) (fun i _ => l.length - (intOf i).toNat)
  case atStart => exact ⟨0, Nat.zero_le _, rfl, Below.refl _ _⟩
  case round =>
    obtain ⟨k, hk, rfl, hb⟩ := hrel
    have hS := Lib.hid hb
    obtain ⟨q0, q1⟩ := (L5.out.on hb).cells
    clear hb
    by_cases hlt : k < l.length
    · obtain ⟨z, hzk⟩ : ∃ z, l[k]? = some z := ⟨_, List.getElem?_eq_getElem hlt⟩
      obtain ⟨⟨b1, o1, rfl, lt1, g1⟩, t1, t2⟩ := Q.out k z hzk
      obtain ⟨hlk, hoz, hnz⟩ := HO.out k z hzk
      have GC := Lib.hid (fun (u : World) (h : Below U.heap.size U u) (j : Nat) (hj : j < 14) => (h.cell lt1).trans (g1 j hj))
      obtain ⟨⟨ey, em, ed, ewd, ese, ewk, eki, epr, erk, efy, efm, efd, eco, eom⟩, vc, vo⟩ := z
      simp only at hlk hoz hnz
      obtain ⟨ac, kc, rfl, -⟩ := (show TxAt U vc eco from t1)
      obtain ⟨ao, ko, rfl, -⟩ := (show TxAt U vo eom from t2)
      have H1 := Lib.hid (fun (u : World) (h : Below U.heap.size U u) => p27lin (e := ⟨ey, em, ed, ewd, ese, ewk, eki, epr, erk, efy, efm, efd, eco, eom⟩) (L5.out.t.on h) (t1.on h) (t2.on h) hlk)
      have H2 := Lib.hid (fun (u : World) (h : Below U.heap.size U u) => r27lin (y := yr) (e := ⟨ey, em, ed, ewd, ese, ewk, eki, epr, erk, efy, efm, efd, eco, eom⟩) (t1.on h) (t2.on h) hoz (by show eco.length ≤ 1000; omega) (by show eom.length ≤ 1000; omega))
      have RB := Lib.hid (fun (u : World) (h : Below U.heap.size U u) => (L5.out.on h).cells)
      clear g1 t1 t2 hzk hlk hoz hnz lt1
      generalize txL ⟨ey, em, ed, ewd, ese, ewk, eki, epr, erk, efy, efm, efd, eco, eom⟩ = tl at *
      go_wp2_with fail
      clear q0 q1
      refine wp_region_held_drew (S := fun u => Below U.heap.size U u) (by kernel_rfl) (below_dn hS.out 1) (fun hHeld => ?_)
      refine wpAnyH_take (i := 0) (oi := { dst := some 36, op := _, type := _, pos := _, after := _, guard := _ }) (v := ?v1_0) rfl (by kernel_rfl) (by kernel_rfl) (by kernel_rfl) (fun _ _ _ h => h) (Or.inl ⟨by rfl, ?hy1_0⟩) hHeld ?_
      case hy1_0 => (intro w hSw; obtain ⟨q0, q1⟩ := RB.out _ hSw; have p0 := GC.out _ hSw 0 (by omega); have p1 := GC.out _ hSw 1 (by omega); have p2 := GC.out _ hSw 2 (by omega); have p3 := GC.out _ hSw 3 (by omega); have p4 := GC.out _ hSw 4 (by omega); have p5 := GC.out _ hSw 5 (by omega); have p6 := GC.out _ hSw 6 (by omega); have p7 := GC.out _ hSw 7 (by omega); have p8 := GC.out _ hSw 8 (by omega); have p9 := GC.out _ hSw 9 (by omega); have p10 := GC.out _ hSw 10 (by omega); have p11 := GC.out _ hSw 11 (by omega); have p12 := GC.out _ hSw 12 (by omega); have p13 := GC.out _ hSw 13 (by omega); simp only [Enz.vals, List.getElem?_cons_succ, List.getElem?_cons_zero, Nat.add_zero] at p0 p1 p2 p3 p4 p5 p6 p7 p8 p9 p10 p11 p12 p13; go_simp; try with_reducible rfl)
      simp only [Act.put, List.setIfInBounds_toArray, List.set_cons_zero, List.set_cons_succ]
      refine wpAnyH_take (i := 1) (oi := { dst := some 37, op := _, type := _, pos := _, after := _, guard := _ }) (v := ?v1_1) rfl (by kernel_rfl) (by kernel_rfl) (by kernel_rfl) (fun _ _ _ h => h) (Or.inl ⟨by rfl, ?hy1_1⟩) hHeld ?_
      case hy1_1 => (intro w hSw; obtain ⟨q0, q1⟩ := RB.out _ hSw; have p0 := GC.out _ hSw 0 (by omega); have p1 := GC.out _ hSw 1 (by omega); have p2 := GC.out _ hSw 2 (by omega); have p3 := GC.out _ hSw 3 (by omega); have p4 := GC.out _ hSw 4 (by omega); have p5 := GC.out _ hSw 5 (by omega); have p6 := GC.out _ hSw 6 (by omega); have p7 := GC.out _ hSw 7 (by omega); have p8 := GC.out _ hSw 8 (by omega); have p9 := GC.out _ hSw 9 (by omega); have p10 := GC.out _ hSw 10 (by omega); have p11 := GC.out _ hSw 11 (by omega); have p12 := GC.out _ hSw 12 (by omega); have p13 := GC.out _ hSw 13 (by omega); simp only [Enz.vals, List.getElem?_cons_succ, List.getElem?_cons_zero, Nat.add_zero] at p0 p1 p2 p3 p4 p5 p6 p7 p8 p9 p10 p11 p12 p13; go_simp; try with_reducible rfl)
      simp only [Act.put, List.setIfInBounds_toArray, List.set_cons_zero, List.set_cons_succ]
      refine wpAnyH_take (i := 2) (oi := { dst := some 38, op := _, type := _, pos := _, after := _, guard := _ }) (v := ?v1_2) rfl (by kernel_rfl) (by kernel_rfl) (by kernel_rfl) (fun _ _ _ h => h) (Or.inl ⟨by rfl, ?hy1_2⟩) hHeld ?_
      case hy1_2 => (intro w hSw; obtain ⟨q0, q1⟩ := RB.out _ hSw; have p0 := GC.out _ hSw 0 (by omega); have p1 := GC.out _ hSw 1 (by omega); have p2 := GC.out _ hSw 2 (by omega); have p3 := GC.out _ hSw 3 (by omega); have p4 := GC.out _ hSw 4 (by omega); have p5 := GC.out _ hSw 5 (by omega); have p6 := GC.out _ hSw 6 (by omega); have p7 := GC.out _ hSw 7 (by omega); have p8 := GC.out _ hSw 8 (by omega); have p9 := GC.out _ hSw 9 (by omega); have p10 := GC.out _ hSw 10 (by omega); have p11 := GC.out _ hSw 11 (by omega); have p12 := GC.out _ hSw 12 (by omega); have p13 := GC.out _ hSw 13 (by omega); simp only [Enz.vals, List.getElem?_cons_succ, List.getElem?_cons_zero, Nat.add_zero] at p0 p1 p2 p3 p4 p5 p6 p7 p8 p9 p10 p11 p12 p13; go_simp; try with_reducible rfl)
      simp only [Act.put, List.setIfInBounds_toArray, List.set_cons_zero, List.set_cons_succ]
      refine wpAnyH_take (i := 3) (oi := { dst := some 39, op := _, type := _, pos := _, after := _, guard := _ }) (v := ?v1_3) rfl (by kernel_rfl) (by kernel_rfl) (by kernel_rfl) (fun _ _ _ h => h) (Or.inl ⟨by rfl, ?hy1_3⟩) hHeld ?_
      case hy1_3 => (intro w hSw; obtain ⟨q0, q1⟩ := RB.out _ hSw; have p0 := GC.out _ hSw 0 (by omega); have p1 := GC.out _ hSw 1 (by omega); have p2 := GC.out _ hSw 2 (by omega); have p3 := GC.out _ hSw 3 (by omega); have p4 := GC.out _ hSw 4 (by omega); have p5 := GC.out _ hSw 5 (by omega); have p6 := GC.out _ hSw 6 (by omega); have p7 := GC.out _ hSw 7 (by omega); have p8 := GC.out _ hSw 8 (by omega); have p9 := GC.out _ hSw 9 (by omega); have p10 := GC.out _ hSw 10 (by omega); have p11 := GC.out _ hSw 11 (by omega); have p12 := GC.out _ hSw 12 (by omega); have p13 := GC.out _ hSw 13 (by omega); simp only [Enz.vals, List.getElem?_cons_succ, List.getElem?_cons_zero, Nat.add_zero] at p0 p1 p2 p3 p4 p5 p6 p7 p8 p9 p10 p11 p12 p13; go_simp; try with_reducible rfl)
      simp only [Act.put, List.setIfInBounds_toArray, List.set_cons_zero, List.set_cons_succ]
      refine wpAnyH_take (i := 4) (oi := { dst := some 40, op := _, type := _, pos := _, after := _, guard := _ }) (v := ?v1_4) rfl (by kernel_rfl) (by kernel_rfl) (by kernel_rfl) (fun _ _ _ h => h) (Or.inl ⟨by rfl, ?hy1_4⟩) hHeld ?_
      case hy1_4 => (intro w hSw; obtain ⟨q0, q1⟩ := RB.out _ hSw; have p0 := GC.out _ hSw 0 (by omega); have p1 := GC.out _ hSw 1 (by omega); have p2 := GC.out _ hSw 2 (by omega); have p3 := GC.out _ hSw 3 (by omega); have p4 := GC.out _ hSw 4 (by omega); have p5 := GC.out _ hSw 5 (by omega); have p6 := GC.out _ hSw 6 (by omega); have p7 := GC.out _ hSw 7 (by omega); have p8 := GC.out _ hSw 8 (by omega); have p9 := GC.out _ hSw 9 (by omega); have p10 := GC.out _ hSw 10 (by omega); have p11 := GC.out _ hSw 11 (by omega); have p12 := GC.out _ hSw 12 (by omega); have p13 := GC.out _ hSw 13 (by omega); simp only [Enz.vals, List.getElem?_cons_succ, List.getElem?_cons_zero, Nat.add_zero] at p0 p1 p2 p3 p4 p5 p6 p7 p8 p9 p10 p11 p12 p13; go_simp; try with_reducible rfl)
      simp only [Act.put, List.setIfInBounds_toArray, List.set_cons_zero, List.set_cons_succ]
      refine wpAnyH_take (i := 6) (oi := { dst := some 42, op := _, type := _, pos := _, after := _, guard := _ }) (v := ?v1_6) rfl (by kernel_rfl) (by kernel_rfl) (by kernel_rfl) (fun _ _ _ h => h) (Or.inl ⟨by rfl, ?hy1_6⟩) hHeld ?_
      case hy1_6 => (intro w hSw; obtain ⟨q0, q1⟩ := RB.out _ hSw; have p0 := GC.out _ hSw 0 (by omega); have p1 := GC.out _ hSw 1 (by omega); have p2 := GC.out _ hSw 2 (by omega); have p3 := GC.out _ hSw 3 (by omega); have p4 := GC.out _ hSw 4 (by omega); have p5 := GC.out _ hSw 5 (by omega); have p6 := GC.out _ hSw 6 (by omega); have p7 := GC.out _ hSw 7 (by omega); have p8 := GC.out _ hSw 8 (by omega); have p9 := GC.out _ hSw 9 (by omega); have p10 := GC.out _ hSw 10 (by omega); have p11 := GC.out _ hSw 11 (by omega); have p12 := GC.out _ hSw 12 (by omega); have p13 := GC.out _ hSw 13 (by omega); simp only [Enz.vals, List.getElem?_cons_succ, List.getElem?_cons_zero, Nat.add_zero] at p0 p1 p2 p3 p4 p5 p6 p7 p8 p9 p10 p11 p12 p13; go_simp; try with_reducible rfl)
      simp only [Act.put, List.setIfInBounds_toArray, List.set_cons_zero, List.set_cons_succ]
      refine wpAnyH_take (i := 7) (oi := { dst := some 43, op := _, type := _, pos := _, after := _, guard := _ }) (v := ?v1_7) rfl (by kernel_rfl) (by kernel_rfl) (by kernel_rfl) (fun _ _ _ h => h) (Or.inl ⟨by rfl, ?hy1_7⟩) hHeld ?_
      case hy1_7 => (intro w hSw; obtain ⟨q0, q1⟩ := RB.out _ hSw; have p0 := GC.out _ hSw 0 (by omega); have p1 := GC.out _ hSw 1 (by omega); have p2 := GC.out _ hSw 2 (by omega); have p3 := GC.out _ hSw 3 (by omega); have p4 := GC.out _ hSw 4 (by omega); have p5 := GC.out _ hSw 5 (by omega); have p6 := GC.out _ hSw 6 (by omega); have p7 := GC.out _ hSw 7 (by omega); have p8 := GC.out _ hSw 8 (by omega); have p9 := GC.out _ hSw 9 (by omega); have p10 := GC.out _ hSw 10 (by omega); have p11 := GC.out _ hSw 11 (by omega); have p12 := GC.out _ hSw 12 (by omega); have p13 := GC.out _ hSw 13 (by omega); simp only [Enz.vals, List.getElem?_cons_succ, List.getElem?_cons_zero, Nat.add_zero] at p0 p1 p2 p3 p4 p5 p6 p7 p8 p9 p10 p11 p12 p13; go_simp; try with_reducible rfl)
      simp only [Act.put, List.setIfInBounds_toArray, List.set_cons_zero, List.set_cons_succ]
      refine wpAnyH_take (i := 8) (oi := { dst := some 44, op := _, type := _, pos := _, after := _, guard := _ }) (v := ?v1_8) rfl (by kernel_rfl) (by kernel_rfl) (by kernel_rfl) (fun _ _ _ h => h) (Or.inl ⟨by rfl, ?hy1_8⟩) hHeld ?_
      case hy1_8 => (intro w hSw; obtain ⟨q0, q1⟩ := RB.out _ hSw; have p0 := GC.out _ hSw 0 (by omega); have p1 := GC.out _ hSw 1 (by omega); have p2 := GC.out _ hSw 2 (by omega); have p3 := GC.out _ hSw 3 (by omega); have p4 := GC.out _ hSw 4 (by omega); have p5 := GC.out _ hSw 5 (by omega); have p6 := GC.out _ hSw 6 (by omega); have p7 := GC.out _ hSw 7 (by omega); have p8 := GC.out _ hSw 8 (by omega); have p9 := GC.out _ hSw 9 (by omega); have p10 := GC.out _ hSw 10 (by omega); have p11 := GC.out _ hSw 11 (by omega); have p12 := GC.out _ hSw 12 (by omega); have p13 := GC.out _ hSw 13 (by omega); simp only [Enz.vals, List.getElem?_cons_succ, List.getElem?_cons_zero, Nat.add_zero] at p0 p1 p2 p3 p4 p5 p6 p7 p8 p9 p10 p11 p12 p13; go_simp; try with_reducible rfl)
      simp only [Act.put, List.setIfInBounds_toArray, List.set_cons_zero, List.set_cons_succ]
      refine wpAnyH_take (i := 9) (oi := { dst := some 45, op := _, type := _, pos := _, after := _, guard := _ }) (v := ?v1_9) rfl (by kernel_rfl) (by kernel_rfl) (by kernel_rfl) (fun _ _ _ h => h) (Or.inl ⟨by rfl, ?hy1_9⟩) hHeld ?_
      case hy1_9 => (intro w hSw; obtain ⟨q0, q1⟩ := RB.out _ hSw; have p0 := GC.out _ hSw 0 (by omega); have p1 := GC.out _ hSw 1 (by omega); have p2 := GC.out _ hSw 2 (by omega); have p3 := GC.out _ hSw 3 (by omega); have p4 := GC.out _ hSw 4 (by omega); have p5 := GC.out _ hSw 5 (by omega); have p6 := GC.out _ hSw 6 (by omega); have p7 := GC.out _ hSw 7 (by omega); have p8 := GC.out _ hSw 8 (by omega); have p9 := GC.out _ hSw 9 (by omega); have p10 := GC.out _ hSw 10 (by omega); have p11 := GC.out _ hSw 11 (by omega); have p12 := GC.out _ hSw 12 (by omega); have p13 := GC.out _ hSw 13 (by omega); simp only [Enz.vals, List.getElem?_cons_succ, List.getElem?_cons_zero, Nat.add_zero] at p0 p1 p2 p3 p4 p5 p6 p7 p8 p9 p10 p11 p12 p13; go_simp; try with_reducible rfl)
      simp only [Act.put, List.setIfInBounds_toArray, List.set_cons_zero, List.set_cons_succ]
      refine wpAnyH_take (i := 10) (oi := { dst := some 46, op := _, type := _, pos := _, after := _, guard := _ }) (v := ?v1_10) rfl (by kernel_rfl) (by kernel_rfl) (by kernel_rfl) (fun _ _ _ h => h) (Or.inl ⟨by rfl, ?hy1_10⟩) hHeld ?_
      case hy1_10 => (intro w hSw; obtain ⟨q0, q1⟩ := RB.out _ hSw; have p0 := GC.out _ hSw 0 (by omega); have p1 := GC.out _ hSw 1 (by omega); have p2 := GC.out _ hSw 2 (by omega); have p3 := GC.out _ hSw 3 (by omega); have p4 := GC.out _ hSw 4 (by omega); have p5 := GC.out _ hSw 5 (by omega); have p6 := GC.out _ hSw 6 (by omega); have p7 := GC.out _ hSw 7 (by omega); have p8 := GC.out _ hSw 8 (by omega); have p9 := GC.out _ hSw 9 (by omega); have p10 := GC.out _ hSw 10 (by omega); have p11 := GC.out _ hSw 11 (by omega); have p12 := GC.out _ hSw 12 (by omega); have p13 := GC.out _ hSw 13 (by omega); simp only [Enz.vals, List.getElem?_cons_succ, List.getElem?_cons_zero, Nat.add_zero] at p0 p1 p2 p3 p4 p5 p6 p7 p8 p9 p10 p11 p12 p13; go_simp; try with_reducible rfl)
      simp only [Act.put, List.setIfInBounds_toArray, List.set_cons_zero, List.set_cons_succ]
      obtain ⟨we, hwe⟩ : ∃ we, we = wr.drew := ⟨_, rfl⟩
      rw [← hwe] at hHeld ⊢
      clear hwe
      refine wpAnyH_ready (rs := [5]) (by kernel_rfl) (by simp) ?_
      refine AllReadyH.cons (o := { dst := some 41, op := _, type := _, pos := _, after := _, guard := _ }) rfl (fun K hK => ?_) AllReadyH.nil
      go_simp
      go_at_call 15
      refine (H1.out _ hHeld).mono ?_
      rintro e6 u6 ⟨rfl, b6⟩
      have hS := Lib.hid (below_on hHeld b6)
      refine hK.out _ _ hS.out (fun hHeld => ?_)
      clear hK K
      refine wpAnyH_ready (rs := [11]) (by kernel_rfl) (by simp) ?_
      refine AllReadyH.cons (o := { dst := some 47, op := _, type := _, pos := _, after := _, guard := _ }) rfl (fun K hK => ?_) AllReadyH.nil
      go_simp
      go_at_call 16
      refine (H2.out _ hHeld).mono ?_
      rintro e7 u7 ⟨rfl, b7⟩
      have hS := Lib.hid (below_on hHeld b7)
      refine hK.out _ _ hS.out (fun hHeld => ?_)
      clear hK K
      refine wpAnyH_take (i := 12) (oi := { dst := some 48, op := _, type := _, pos := _, after := _, guard := _ }) (v := ?v1_12) rfl (by kernel_rfl) (by kernel_rfl) (by kernel_rfl) (fun _ _ _ h => h) (Or.inl ⟨by rfl, ?hy1_12⟩) hHeld ?_
      case hy1_12 => (intro w hSw; obtain ⟨q0, q1⟩ := RB.out _ hSw; have p0 := GC.out _ hSw 0 (by omega); have p1 := GC.out _ hSw 1 (by omega); have p2 := GC.out _ hSw 2 (by omega); have p3 := GC.out _ hSw 3 (by omega); have p4 := GC.out _ hSw 4 (by omega); have p5 := GC.out _ hSw 5 (by omega); have p6 := GC.out _ hSw 6 (by omega); have p7 := GC.out _ hSw 7 (by omega); have p8 := GC.out _ hSw 8 (by omega); have p9 := GC.out _ hSw 9 (by omega); have p10 := GC.out _ hSw 10 (by omega); have p11 := GC.out _ hSw 11 (by omega); have p12 := GC.out _ hSw 12 (by omega); have p13 := GC.out _ hSw 13 (by omega); simp only [Enz.vals, List.getElem?_cons_succ, List.getElem?_cons_zero, Nat.add_zero] at p0 p1 p2 p3 p4 p5 p6 p7 p8 p9 p10 p11 p12 p13; go_simp; try with_reducible rfl)
      simp only [Act.put, List.setIfInBounds_toArray, List.set_cons_zero, List.set_cons_succ]
      refine wpAnyH_done (by kernel_rfl) ?_ _
      go_wp2_with fail
      go_roundw
      case rel => exact ⟨k + 1, by omega, by go_num, hS.out⟩
      case measure => simp [intOf]; omega
    · obtain rfl : k = l.length := by omega
      have L6 := Lib.hid (L5.out.on hS.out)
      have K6 := Lib.hid (K5.out.on hS.out)
      have R6 := Lib.hid (row_kept R5.out hS.out)
      go_wp2_with fail
      clear q0 q1
      refine (HF.out _ L6.out).mono ?_
      rintro e u7 ⟨rfl, hb⟩
      have L7 := Lib.hid (L6.out.on hb)
      have K7 := Lib.hid (K6.out.on hb)
      have R7 := row_kept R6.out hb
      clear hb
      obtain ⟨q0, q1⟩ := L7.out.cells
      have k0 : u7.cell? ⟨u5.heap.size, 0, none⟩ = some (.int .i64 yr) := by rw [cell_of_row _ _ _ _ _ _ R7]; rfl
      have k1 : u7.cell? ⟨u5.heap.size, 1, none⟩ = some (.slice A5 l5.length c5) := by rw [cell_of_row _ _ _ _ _ _ R7]; rfl
      clear R7
      go_wp2_with fail
      clear q0 q1 k0 k1
      refine (HS.out _ _ _ l5 L7.out.k K7.out he5.out).mono ?_
      rintro e u8 ⟨rfl, hb⟩
      have L8 := Lib.hid (L7.out.on hb)
      clear hb
      go_wp2_with fail
      go_ret
      exact ⟨ret_bool (by simp), L8.out.bl⟩
theorem l27c_any (z : Kz) (v : Value) (W : World) (hT : T26 W) (h : KalAt W v z) :
    Calls Tryz.prog 4 #[v] W fun e w' => e = .returned (.bool true) ∧ Below W.heap.size W w' := by
  obtain ⟨yr, l⟩ := z
  obtain ⟨vs, rfl, h1⟩ := h
  have h0 := h1
  obtain ⟨A, c, rfl, -⟩ := h0
  exact l27c_box yr l A c W hT h1
end
end Go.Proofs.YtkhicgafhbecfaaGreatDoor
