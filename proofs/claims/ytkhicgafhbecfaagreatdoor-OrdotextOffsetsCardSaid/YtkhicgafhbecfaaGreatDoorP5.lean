/- What earlier stages proved: Yq Yr Yt Yu Yv. -/
import Derived.Test.YtkhicgafhbecfaaGreatDoorP2
import Derived.Deep.RegionHeld3
import Derived.Lib.Join
import Derived.Maps.OwnSet
import Derived.Test.YtkhicgafhbecfaaGreatDoorYs
namespace Go.Proofs.YtkhicgafhbecfaaGreatDoor
open Go.RowKit

structure T26 (w : World) : Prop where
  wk : WTab w
  pw : ∃ t fr, w.heap[3]? = some (.cells (Lib.pow10Tab.map fun z => Value.int .u64 z).toArray t fr)
theorem T26.heap {w : World} (h : T26 w) : 3 < w.heap.size := by
  obtain ⟨t, fr, e⟩ := h.pw
  exact row_lt e
theorem T26.below {w w' : World} {n : Nat} (h : T26 w) (hb : Below n w w') (h1 : 0 < n) (h2 : 3 < n) : T26 w' := by
  obtain ⟨t, fr, e⟩ := h.pw
  exact ⟨h.wk.below hb h1, t, fr, by rw [hb.block _ h2]; exact e⟩
theorem T26.on {w w' : World} (h : T26 w) (hb : Below w.heap.size w w') : T26 w' := h.below hb h.wk.heap h.heap
theorem gPow : Tryz.prog.globalNamed "internal/strconv.uint64pow10" = some 3 := by kernel_rfl
theorem T26.tab {w : World} (h : T26 w) : Lib.TabIs Tryz.prog w "internal/strconv.uint64pow10" .u64 Lib.pow10Tab := by
  obtain ⟨t, fr, e⟩ := h.pw
  unfold Lib.TabIs World.var?
  rw [gPow, Option.bind_some, e]
theorem dec_lib : ∀ (f n : Nat), (n : Int) < pw f → 1 ≤ f → (dcF f n).data.toList = Lib.decDigits n := by
  have one : ∀ r : Nat, r < 10 → (dgS.extract r (r + 1)).data.toList = [UInt8.ofNat (48 + r)] := by decide +kernel
  intro f
  induction f with
  | zero => intro n _ h; omega
  | succ f ih =>
    intro n hn _
    have e : pw (f + 1) = 10 * pw f := rfl
    unfold dcF
    by_cases c : n < 10
    · rw [if_pos c, Lib.decDigits_one c, one n c]
    · have f1 : 1 ≤ f := by
        rcases Nat.eq_zero_or_pos f with q | q
        · subst q
          have : pw 0 = 1 := rfl
          omega
        · exact q
      rw [if_neg c, Lib.decDigits, dif_neg c, ByteArray.data_append, Array.toList_append, ih (n / 10) (by omega) f1, one (n % 10) (by omega)]
theorem itB_lib {n : Int} (h : inT n = true) : (⟨(Lib.itoa n).toArray⟩ : ByteArray) = itB n := by
  obtain ⟨h1, h2⟩ := inT_iff.1 h
  have p10 : pw 10 = 10000000000 := rfl
  rw [← Lib.mk_data (itB n)]
  congr 2
  unfold Lib.itoa itB
  by_cases c : n < 0
  · rw [if_pos c, if_pos c, ByteArray.data_append, Array.toList_append, dec_lib 10 n.natAbs (by omega) (by decide)]; rfl
  · rw [if_neg c, if_neg c, dec_lib 10 n.natAbs (by omega) (by decide), show n.toNat = n.natAbs by omega]
theorem itB_size {n : Int} (h : inT n = true) : (itB n).size ≤ 11 := by
  obtain ⟨h1, h2⟩ := inT_iff.1 h
  have := (dec_of (n := n.natAbs) (by omega)).l2
  unfold itB
  split
  · rw [ByteArray.size_append]; show 1 + _ ≤ 11; omega
  · omega
theorem p26ito {n : Int} (h : inT n = true) (w : World) (hT : T26 w) : Calls Tryz.prog 62 #[.int .i64 n] w fun e w' => e = .returned (.string (itB n)) ∧ Below w.heap.size w w' := by
  obtain ⟨h1, h2⟩ := inT_iff.1 h
  refine (sh_strconv_Itoa n (by omega) (by omega) w hT.tab).mono ?_
  rintro e w' ⟨rfl, k, os, rfl⟩
  refine ⟨by rw [itB_lib h], rfl, rfl, rfl, ?_, fun i hi => ?_⟩
  · show w.heap.size ≤ (w.heap ++ os).size
    rw [Array.size_append]; omega
  · show (w.heap ++ os)[i]? = _
    rw [Array.getElem?_append_left hi]
def jn : List ByteArray → ByteArray
  | [] => ByteArray.empty
  | [a] => a
  | a :: b :: l => a ++ (wSp ++ jn (b :: l))
theorem jn_lib : ∀ xs : List ByteArray, Lib.join (xs.map (·.data.toList)) wSp.data.toList = (jn xs).data.toList
  | [] => rfl
  | [a] => Lib.join_one _ _
  | a :: b :: l => by
    have ih := jn_lib (b :: l)
    rw [List.map_cons, Lib.join_cons] at ih ⊢
    show _ ++ Lib.joinTail _ (b.data.toList :: l.map (·.data.toList)) = (a ++ (wSp ++ jn (b :: l))).data.toList
    rw [ByteArray.data_append, Array.toList_append, ByteArray.data_append, Array.toList_append, ← ih]
    unfold Lib.joinTail
    simp
theorem lit5 {w : World} (a b c d e : ByteArray) (t : TypeId) : StrsIn w.heap.size 5 [a, b, c, d, e] (w.alloc (.cells #[.string a, .string b, .string c, .string d, .string e] t)) :=
  ⟨by simp, Nat.le_refl _, by decide, fun i hi => by
    have : i = 0 ∨ i = 1 ∨ i = 2 ∨ i = 3 ∨ i = 4 := by simp at hi; omega
    rcases this with rfl | rfl | rfl | rfl | rfl
    · rw [cell_of_row _ _ 0 _ _ _ (heap_alloc_new w _)]; rfl
    · rw [cell_of_row _ _ 1 _ _ _ (heap_alloc_new w _)]; rfl
    · rw [cell_of_row _ _ 2 _ _ _ (heap_alloc_new w _)]; rfl
    · rw [cell_of_row _ _ 3 _ _ _ (heap_alloc_new w _)]; rfl
    · rw [cell_of_row _ _ 4 _ _ _ (heap_alloc_new w _)]; rfl⟩
end Go.Proofs.YtkhicgafhbecfaaGreatDoor

namespace Go.Proofs.YtkhicgafhbecfaaGreatDoor
open Go.RowKit
open Go.Maps (Keyed int_keyed keyOf_int_mk IsMap)

theorem nm_size (x : Int) : (nm x).size ≤ 9 := by
  unfold nm
  split
  · decide
  · split
    · decide
    · split
      · decide
      · split
        · decide
        · split
          · decide
          · split
            · decide
            · split <;> decide
theorem lawI26 : Keyed Tryz.prog 3 := int_keyed Tryz.underlying3
theorem wp_lookup {H : Type} {P : Program} {u : World} {o : Oper} {a : Act} {K : Act → World → Prop} {Q : Exit → Act → World → Prop} {t : TypeId} {m x : Operand} (hop : o.op = Op.lookup t m x true) {k e : TypeId} (KK : Keyed P k) (ht : P.underlying t = some (.map k e))
    {R : Value → Option (DataW H × List MemPlace)} {z : Value} (hz : (zeroValue e).run P u = .ok z u) {zd : DataW H} {zp : List MemPlace} (hzd : R z = some (zd, zp)) {b n : Nat} {D : DataW H} (hm : a.eval m = .map (some b)) (hown : u.ownsMap P k R b n D) {key : Value} {kl : Lit} (hx : a.eval x = key) (hkey : keyOf P k key = some kl)
    (hK : ∀ v ps, R v = some (D.atKey kl zd, ps) → K (a.put o.dst (.tuple #[v, .bool (Maps.has D kl)])) u) : o.wp P a u K Q := by
  obtain ⟨v, ps, hrun, hv⟩ := hown.look_ok KK ht hz hzd hkey
  unfold Oper.wp
  simp [execOp, hop, hm, hx, hrun, Result.andThen]
  exact hK v ps hv
def txJ (a : Anc) : ByteArray := if a.k = 1 then jn [wFix, itB a.m, itB a.d] else if a.k = 2 then jn [wEas, itB a.o] else jn [wNth, nm a.w, itB a.c, itB a.m, itB a.d]
theorem txA_J (a : Anc) : txA a = txJ a ++ wLf := by
  unfold txA txJ
  split
  · simp only [jn, ByteArray.append_assoc]
  · split
    · simp only [jn, ByteArray.append_assoc]
    · simp only [jn, ByteArray.append_assoc]
theorem txJ_size {a : Anc} (h : ancB a = true) : (txJ a).size ≤ 60 := by
  obtain ⟨k, m, d, o, x, c⟩ := a
  unfold ancB at h
  simp only [Bool.and_eq_true] at h
  obtain ⟨⟨hm, hd, ho, hc⟩, -⟩ := h
  have a1 := itB_size hm
  have a2 := itB_size hd
  have a3 := itB_size ho
  have a4 := itB_size hc
  have a5 := nm_size x
  have e1 : wFix.size = 5 := rfl
  have e2 : wEas.size = 6 := rfl
  have e3 : wNth.size = 3 := rfl
  have e4 : wSp.size = 1 := rfl
  unfold txJ
  split
  · simp only [jn, ByteArray.size_append]; omega
  · split
    · simp only [jn, ByteArray.size_append]; omega
    · simp only [jn, ByteArray.size_append]; omega
end Go.Proofs.YtkhicgafhbecfaaGreatDoor

namespace Go.Proofs.YtkhicgafhbecfaaGreatDoor
open Go.RowKit

theorem bu_on {T e : TypeId} {B b : Nat} {p : Value} {bs : List Value} {u u' : World} (h : Lib.BuilderAtF T e B b p bs u) (hb : Below u.heap.size u u') : Lib.BuilderAtF T e B b p bs u' := by
  obtain ⟨hB, v, hr, ho, hn⟩ := h
  exact ⟨hB, v, row_kept hr hb, ho.kept (grown_of_below hb none) (by cases v.ownBlock <;> simp), hn⟩
theorem str_app (a b : ByteArray) : Lib.strCells (a ++ b) = Lib.strCells a ++ Lib.strCells b := by
  rw [Lib.strCells_eq, Lib.strCells_eq, Lib.strCells_eq, ByteArray.data_append, Array.toList_append, Lib.byteCells_append]
theorem oth_row {b : Nat} {u u' : World} (h : Lib.OthersKept 5 (some b) u u') {X : Nat} {cs : Array Value} {T : TypeId} (hr : u.heap[X]? = some (.cells cs T (0, 0))) (hb : b < X) (hT : T ≠ 5) : u'.heap[X]? = some (.cells cs T (0, 0)) :=
  h X _ hr (fun e => by injection e with e; omega) (fun c fz e => hT (by injection e))
theorem txS_jn (t : Itm) : txS t = jn [wSe5, t.id, itB t.x, itB t.y, txJ t.anc] ++ wLf := by
  have e : wSea = wSe5 ++ wSp := rfl
  unfold txS
  rw [txA_J, e]
  simp only [jn, ByteArray.append_assoc]
theorem txF_jn (t : Itm) : txF t = jn [wFe5, t.id, itB t.x, txP t.y, txJ t.anc] ++ wLf := by
  have e : wFea = wFe5 ++ wSp := rfl
  unfold txF
  rw [txA_J, e]
  simp only [jn, ByteArray.append_assoc]
theorem txs_take (f : Itm → ByteArray) : ∀ (l : List Itm) (k : Nat) (t : Itm), l[k]? = some t → txs f (l.take (k + 1)) = txs f (l.take k) ++ f t
  | [], k, t, h => by simp at h
  | x :: l, 0, t, h => by
    simp at h; subst h
    simp [txs]
  | x :: l, k + 1, t, h => by
    have := txs_take f l k t (by simpa using h)
    rw [List.take_succ_cons, List.take_succ_cons]
    show f x ++ txs f (l.take (k + 1)) = f x ++ txs f (l.take k) ++ f t
    rw [this, ByteArray.append_assoc]
theorem txs_size (f : Itm → ByteArray) (n : Nat) : ∀ l : List Itm, (∀ t ∈ l, (f t).size ≤ n) → (txs f l).size ≤ l.length * n
  | [], _ => by simp [txs]
  | x :: l, h => by
    have h1 := h x (by simp)
    have h2 := txs_size f n l fun t ht => h t (by simp [ht])
    show (f x ++ txs f l).size ≤ _
    rw [ByteArray.size_append, List.length_cons, Nat.succ_mul]
    omega
theorem txP_size (y : Int) : (txP y).size ≤ 11 := by
  unfold txP
  split
  · decide
  · split <;> decide
/-- An item whose text is asked. -/
def gdS (t : Itm) : Bool := okS t && decide (t.id.size ≤ 500000)
def gdF (t : Itm) : Bool := okF t && decide (t.id.size ≤ 500000)
theorem gdS_parts {t : Itm} (h : gdS t = true) : inT t.x = true ∧ inT t.y = true ∧ ancB t.anc = true ∧ (jn [wSe5, t.id, itB t.x, itB t.y, txJ t.anc]).size ≤ 600000 := by
  unfold gdS okS at h
  simp only [Bool.and_eq_true, decide_eq_true_eq] at h
  obtain ⟨⟨_, hx, hy, ha⟩, hi⟩ := h
  have a1 := itB_size hx
  have a2 := itB_size hy
  have a3 := txJ_size ha
  refine ⟨hx, hy, ha, ?_⟩
  have e1 : wSe5.size = 6 := rfl
  have e2 : wSp.size = 1 := rfl
  simp only [jn, ByteArray.size_append]; omega
theorem gdF_parts {t : Itm} (h : gdF t = true) : inT t.x = true ∧ (1 ≤ t.y ∧ t.y ≤ 3) ∧ ancB t.anc = true ∧ (jn [wFe5, t.id, itB t.x, txP t.y, txJ t.anc]).size ≤ 600000 := by
  unfold gdF okF at h
  simp only [Bool.and_eq_true, decide_eq_true_eq] at h
  obtain ⟨⟨_, hx, hy, ha⟩, hi⟩ := h
  have a1 := itB_size hx
  have a2 := txP_size t.y
  have a3 := txJ_size ha
  refine ⟨hx, hy, ha, ?_⟩
  have e1 : wFe5.size = 5 := rfl
  have e2 : wSp.size = 1 := rfl
  simp only [jn, ByteArray.size_append]; omega
theorem txS_size {t : Itm} (h : gdS t = true) : (txS t).size ≤ 1000000 := by
  have h := (gdS_parts h).2.2.2
  rw [txS_jn, ByteArray.size_append]
  have e : wLf.size = 1 := rfl
  omega
theorem txF_size {t : Itm} (h : gdF t = true) : (txF t).size ≤ 1000000 := by
  have h := (gdF_parts h).2.2.2
  rw [txF_jn, ByteArray.size_append]
  have e : wLf.size = 1 := rfl
  omega
theorem nine_row {q : Nat} {T : TypeId} {id : ByteArray} {x y k m d o w c : Int} {u : World} (h : u.heap[q]? = some (.cells #[.string id, .int .i64 x, .int .i64 y, .int .i64 k, .int .i64 m, .int .i64 d, .int .i64 o, .int .i64 w, .int .i64 c] T (0, 0))) :
    u.cell? ⟨q, 0, none⟩ = some (.string id) ∧ u.cell? ⟨q, 1, none⟩ = some (.int .i64 x) ∧ u.cell? ⟨q, 2, none⟩ = some (.int .i64 y) ∧ u.cell? ⟨q, 3, none⟩ = some (.int .i64 k) ∧ u.cell? ⟨q, 4, none⟩ = some (.int .i64 m) ∧ u.cell? ⟨q, 5, none⟩ = some (.int .i64 d) ∧ u.cell? ⟨q, 6, none⟩ = some (.int .i64 o) ∧ u.cell? ⟨q, 7, none⟩ = some (.int .i64 w) ∧ u.cell? ⟨q, 8, none⟩ = some (.int .i64 c) := by
  refine ⟨?_, ?_, ?_, ?_, ?_, ?_, ?_, ?_, ?_⟩ <;> (rw [cell_of_row _ _ _ _ _ _ h]; rfl)
end Go.Proofs.YtkhicgafhbecfaaGreatDoor

namespace Go.Proofs.YtkhicgafhbecfaaGreatDoor
open Go.RowKit

def wCa9 : ByteArray := ⟨#[99, 97, 116, 97, 108, 111, 103, 117, 101]⟩
def wFr4 : ByteArray := ⟨#[102, 114, 101, 101]⟩
def wEn3 : ByteArray := ⟨#[101, 110, 100]⟩
theorem headS (f : Int) : (ByteArray.empty ++ (jn [wCa9] ++ wLf)) ++ (jn [wFr4, itB f] ++ wLf) = wCat ++ (wFre ++ (itB f ++ wLf)) := by
  have e1 : wCat = wCa9 ++ wLf := rfl
  have e2 : wFre = wFr4 ++ wSp := rfl
  rw [e1, e2]
  simp only [jn, ByteArray.append_assoc, ByteArray.empty_append]
structure SB (q : Nat) (T : TypeId) (id : ByteArray) (x y k m d o w c : Int) (u : World) : Prop where
  r : u.heap[q]? = some (.cells #[.string id, .int .i64 x, .int .i64 y, .int .i64 k, .int .i64 m, .int .i64 d, .int .i64 o, .int .i64 w, .int .i64 c] T (0, 0))
theorem SB.on {q : Nat} {T : TypeId} {id : ByteArray} {x y k m d o w c : Int} {u u' : World} (h : SB q T id x y k m d o w c u) (hb : Below u.heap.size u u') : SB q T id x y k m d o w c u' := ⟨row_kept h.r hb⟩
theorem SB.cells {q : Nat} {T : TypeId} {id : ByteArray} {x y k m d o w c : Int} {u : World} (h : SB q T id x y k m d o w c u) :
    u.cell? ⟨q, 0, none⟩ = some (.string id) ∧ u.cell? ⟨q, 1, none⟩ = some (.int .i64 x) ∧ u.cell? ⟨q, 2, none⟩ = some (.int .i64 y) ∧ u.cell? ⟨q, 3, none⟩ = some (.int .i64 k) ∧ u.cell? ⟨q, 4, none⟩ = some (.int .i64 m) ∧ u.cell? ⟨q, 5, none⟩ = some (.int .i64 d) ∧ u.cell? ⟨q, 6, none⟩ = some (.int .i64 o) ∧ u.cell? ⟨q, 7, none⟩ = some (.int .i64 w) ∧ u.cell? ⟨q, 8, none⟩ = some (.int .i64 c) := nine_row h.r
theorem parS {id : ByteArray} {x y k m d o w c : Int} (h : gdS ⟨id, x, y, k, m, d, o, w, c⟩ = true) : inT x = true ∧ inT y = true ∧ ancB ⟨k, m, d, o, w, c⟩ = true ∧ (jn [wSe5, id, itB x, itB y, txJ ⟨k, m, d, o, w, c⟩]).size ≤ 600000 := gdS_parts h
theorem parF {id : ByteArray} {x y k m d o w c : Int} (h : gdF ⟨id, x, y, k, m, d, o, w, c⟩ = true) : inT x = true ∧ (1 ≤ y ∧ y ≤ 3) ∧ ancB ⟨k, m, d, o, w, c⟩ = true ∧ (jn [wFe5, id, itB x, txP y, txJ ⟨k, m, d, o, w, c⟩]).size ≤ 600000 := gdF_parts h
theorem takS {l : List Itm} {i : Nat} {id : ByteArray} {x y k m d o w c : Int} (h : l[i]? = some ⟨id, x, y, k, m, d, o, w, c⟩) : txs txS (l.take (i + 1)) = txs txS (l.take i) ++ (jn [wSe5, id, itB x, itB y, txJ ⟨k, m, d, o, w, c⟩] ++ wLf) := (txs_take txS l i _ h).trans (congrArg _ (txS_jn _))
theorem takF {l : List Itm} {i : Nat} {id : ByteArray} {x y k m d o w c : Int} (h : l[i]? = some ⟨id, x, y, k, m, d, o, w, c⟩) : txs txF (l.take (i + 1)) = txs txF (l.take i) ++ (jn [wFe5, id, itB x, txP y, txJ ⟨k, m, d, o, w, c⟩] ++ wLf) := (txs_take txF l i _ h).trans (congrArg _ (txF_jn _))
theorem tak_size {f : Itm → ByteArray} {l : List Itm} {n : Nat} (h : ∀ t ∈ l, (f t).size ≤ 1000000) (hl : l.length ≤ 100000) : (txs f (l.take n)).size ≤ 100000000000 := by
  have h1 := txs_size f 1000000 (l.take n) fun t ht => h t (List.mem_of_mem_take ht)
  have h2 : (l.take n).length ≤ l.length := by rw [List.length_take]; omega
  have : (l.take n).length * 1000000 ≤ 100000 * 1000000 := Nat.mul_le_mul (Nat.le_trans h2 hl) (Nat.le_refl _)
  omega
end Go.Proofs.YtkhicgafhbecfaaGreatDoor

namespace Go.Proofs.YtkhicgafhbecfaaGreatDoor
open Go.RowKit

def bS1 : ByteArray := ⟨#[99, 97, 116, 97, 108, 111, 103, 117, 101, 10, 102, 114, 101, 101, 32, 55, 10, 115, 101, 97, 115, 111, 110, 32, 115, 32, 49, 32, 50, 32, 110, 116, 104, 32, 109, 111, 110, 100, 97, 121, 32, 45, 49, 32, 53, 32, 51, 49, 10, 102, 101, 97, 115, 116, 32, 102, 32, 51, 32, 111, 109, 105, 116, 32, 101, 97, 115, 116, 101, 114, 32, 52, 57, 10, 101, 110, 100, 10]⟩
def bS2 : ByteArray := ⟨#[99, 97, 116, 97, 108, 111, 103, 117, 101, 10, 102, 114, 101, 101, 32, 48, 48, 10, 101, 110, 100, 10]⟩
def bS3 : ByteArray := ⟨#[99, 97, 116, 97, 108, 111, 103, 117, 101, 10, 102, 114, 101, 101, 32, 48, 10, 101, 110, 100]⟩
def aSea : Itm := ⟨⟨#[115]⟩, 1, 2, 3, 5, 31, 0, 1, -1⟩
def aFea : Itm := ⟨⟨#[102]⟩, 3, 3, 2, 0, 0, 49, 0, 0⟩
theorem aE1 : (pEnd 100 bS1).b = false := by kernel_rfl
theorem aC1 : (pBody 100 bS1 ⟨0, false⟩).1 = ⟨7, [aSea], [aFea]⟩ := by kernel_rfl
theorem aE2 : (pEnd 100 bS2) = ⟨16, true⟩ := by kernel_rfl
theorem aE3 : (pEnd 100 bS3) = ⟨20, true⟩ := by kernel_rfl
theorem aP : txC ⟨0, [], []⟩ = ⟨#[99, 97, 116, 97, 108, 111, 103, 117, 101, 10, 102, 114, 101, 101, 32, 48, 10, 101, 110, 100, 10]⟩ := by kernel_rfl
theorem slat_nil (w : World) : SlAt w (.slice none 0 0) [] := ⟨none, 0, rfl, Nat.le_refl _, by unfold maxLen; omega, fun i t h => by simp at h⟩
end Go.Proofs.YtkhicgafhbecfaaGreatDoor
