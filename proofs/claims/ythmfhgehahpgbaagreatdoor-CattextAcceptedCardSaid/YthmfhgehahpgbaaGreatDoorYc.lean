/- Reading a text as a chain of steps, plain: what is accepted lies there, and what lies there is accepted (Rd); the words of a catalogue's text; numbers, identifiers and words with what ends them. -/
import Derived.Test.YthmfhgehahpgbaaGreatDoorYb
import Derived.Lib.ItoaNum
namespace Go.Proofs.YthmfhgehahpgbaaGreatDoor
open Go.RowKit

def wSp : ByteArray := ⟨#[32]⟩
def wLf : ByteArray := ⟨#[10]⟩
def wCat : ByteArray := ⟨#[99, 97, 116, 97, 108, 111, 103, 117, 101, 10]⟩
def wFre : ByteArray := ⟨#[102, 114, 101, 101, 32]⟩
def wSea : ByteArray := ⟨#[115, 101, 97, 115, 111, 110, 32]⟩
def wFea : ByteArray := ⟨#[102, 101, 97, 115, 116, 32]⟩
def wEnd : ByteArray := ⟨#[101, 110, 100, 10]⟩
def wCaf : ByteArray := ⟨#[99, 97, 116, 97, 108, 111, 103, 117, 101, 10, 102, 114, 101, 101]⟩
def wSe5 : ByteArray := ⟨#[115, 101, 97, 115, 111, 110]⟩
def wFe5 : ByteArray := ⟨#[102, 101, 97, 115, 116]⟩
def lAn : List ByteArray := [⟨#[102, 105, 120, 101, 100]⟩, ⟨#[101, 97, 115, 116, 101, 114]⟩, ⟨#[110, 116, 104]⟩]
def lPo : List ByteArray := [⟨#[116, 114, 97, 110, 115, 102, 101, 114]⟩, ⟨#[99, 111, 109, 109, 101, 109, 111, 114, 97, 116, 101]⟩, ⟨#[111, 109, 105, 116]⟩]
def lWd : List ByteArray := [⟨#[115, 117, 110, 100, 97, 121]⟩, ⟨#[109, 111, 110, 100, 97, 121]⟩, ⟨#[116, 117, 101, 115, 100, 97, 121]⟩, ⟨#[119, 101, 100, 110, 101, 115, 100, 97, 121]⟩, ⟨#[116, 104, 117, 114, 115, 100, 97, 121]⟩, ⟨#[102, 114, 105, 100, 97, 121]⟩, ⟨#[115, 97, 116, 117, 114, 100, 97, 121]⟩]
theorem wds_wSp : Wds [wSp] := wds_of (by kernel_rfl) (by kernel_rfl) (by kernel_rfl) (by kernel_rfl)
theorem wds_wLf : Wds [wLf] := wds_of (by kernel_rfl) (by kernel_rfl) (by kernel_rfl) (by kernel_rfl)
theorem wds_wCat : Wds [wCat] := wds_of (by kernel_rfl) (by kernel_rfl) (by kernel_rfl) (by kernel_rfl)
theorem wds_wFre : Wds [wFre] := wds_of (by kernel_rfl) (by kernel_rfl) (by kernel_rfl) (by kernel_rfl)
theorem wds_wSea : Wds [wSea] := wds_of (by kernel_rfl) (by kernel_rfl) (by kernel_rfl) (by kernel_rfl)
theorem wds_wFea : Wds [wFea] := wds_of (by kernel_rfl) (by kernel_rfl) (by kernel_rfl) (by kernel_rfl)
theorem wds_wEnd : Wds [wEnd] := wds_of (by kernel_rfl) (by kernel_rfl) (by kernel_rfl) (by kernel_rfl)
theorem wds_wCaf : Wds [wCaf] := wds_of (by kernel_rfl) (by kernel_rfl) (by kernel_rfl) (by kernel_rfl)
theorem wds_wSe5 : Wds [wSe5] := wds_of (by kernel_rfl) (by kernel_rfl) (by kernel_rfl) (by kernel_rfl)
theorem wds_wFe5 : Wds [wFe5] := wds_of (by kernel_rfl) (by kernel_rfl) (by kernel_rfl) (by kernel_rfl)
theorem wds_lAn : Wds lAn := wds_of (by kernel_rfl) (by kernel_rfl) (by kernel_rfl) (by kernel_rfl)
theorem wds_lPo : Wds lPo := wds_of (by kernel_rfl) (by kernel_rfl) (by kernel_rfl) (by kernel_rfl)
theorem wds_lWd : Wds lWd := wds_of (by kernel_rfl) (by kernel_rfl) (by kernel_rfl) (by kernel_rfl)
theorem n33_wSp : No33 [wSp] := no33_of (by kernel_rfl)
theorem n33_wLf : No33 [wLf] := no33_of (by kernel_rfl)
theorem n33_wCat : No33 [wCat] := no33_of (by kernel_rfl)
theorem n33_wFre : No33 [wFre] := no33_of (by kernel_rfl)
theorem n33_wSea : No33 [wSea] := no33_of (by kernel_rfl)
theorem n33_wFea : No33 [wFea] := no33_of (by kernel_rfl)
theorem n33_wEnd : No33 [wEnd] := no33_of (by kernel_rfl)
theorem n33_wCaf : No33 [wCaf] := no33_of (by kernel_rfl)
theorem n33_wSe5 : No33 [wSe5] := no33_of (by kernel_rfl)
theorem n33_wFe5 : No33 [wFe5] := no33_of (by kernel_rfl)
theorem n33_lAn : No33 lAn := no33_of (by kernel_rfl)
theorem n33_lPo : No33 lPo := no33_of (by kernel_rfl)
theorem n33_lWd : No33 lWd := no33_of (by kernel_rfl)

/-! what is accepted, what lies there -/
theorem lies_join {S : ByteArray} {k : Nat} {a b : ByteArray} (h1 : LiesAt S k a) (h2 : LiesAt S (k + a.size) b) : LiesAt S k (a ++ b) := by
  intro j hj
  rw [ByteArray.size_append] at hj
  rw [bt_app]
  by_cases q : j < a.size
  · rw [if_pos q]; exact h1 j q
  · rw [if_neg q]
    have := h2 (j - a.size) (by omega)
    rw [show k + a.size + (j - a.size) = k + j by omega] at this
    exact this
structure Rd {α : Type} (f : Prs α) (pr : α → ByteArray) (ok : α → Prop) : Prop where
  so : ∀ S x, x.k ≤ S.size → (f S x).2.b = false → ok (f S x).1 ∧ LiesAt S x.k (pr (f S x).1) ∧ (f S x).2.k = x.k + (pr (f S x).1).size
  co : ∀ S k v, k ≤ S.size → ok v → LiesAt S k (pr v) → f S ⟨k, false⟩ = (v, ⟨k + (pr v).size, false⟩)
theorem rd_R {α : Type} (a : α) : Rd (yR a) (fun _ => ByteArray.empty) (fun v => v = a) := by
  constructor
  · intro S x _ _
    exact ⟨rfl, fun j hj => absurd hj (Nat.not_lt_zero j), rfl⟩
  · rintro S k v _ rfl _
    rfl
theorem rd_B {α β : Type} {f : Prs α} {g : α → Prs β} {pf : α → ByteArray} {pg : β → ByteArray} {okf : α → Prop} {okg : α → β → Prop} (p : β → α) (hf : Rd f pf okf) (hg : ∀ a, okf a → Rd (g a) pg (okg a)) (hp : ∀ a v, okg a v → p v = a) (Gf : Gk f) (Gg : ∀ a, Gk (g a)) :
    Rd (yB f g) (fun v => pf (p v) ++ pg v) (fun v => okf (p v) ∧ okg (p v) v) := by
  constructor
  · intro S x hx hb
    have h1 : (f S x).2.b = false := (Gg _).ok hb
    obtain ⟨a1, a2, a3⟩ := hf.so S x hx h1
    have hk := (Gf.le S x hx).2
    obtain ⟨b1, b2, b3⟩ := (hg _ a1).so S (f S x).2 hk hb
    have e := hp _ _ b1
    show (okf (p (g (f S x).1 S (f S x).2).1) ∧ _) ∧ LiesAt S x.k (pf (p (g (f S x).1 S (f S x).2).1) ++ pg (g (f S x).1 S (f S x).2).1) ∧ (g (f S x).1 S (f S x).2).2.k = _
    rw [e]
    refine ⟨⟨a1, ?_⟩, ?_, ?_⟩
    · show okg (p (g (f S x).1 S (f S x).2).1) _
      rw [e]; exact b1
    · rw [a3] at b2; exact lies_join a2 b2
    · show _ = x.k + (pf (p (g (f S x).1 S (f S x).2).1) ++ pg (g (f S x).1 S (f S x).2).1).size
      rw [e, b3, a3, ByteArray.size_append, Nat.add_assoc]
  · rintro S k v hk ⟨o1, o2⟩ hl
    obtain ⟨l1, l2⟩ := lies_app hl
    have e1 := hf.co S k (p v) hk o1 l1
    have e2 := (hg _ o1).co S (k + (pf (p v)).size) v (l1.len hk) o2 l2
    show g (f S ⟨k, false⟩).1 S (f S ⟨k, false⟩).2 = _
    rw [e1]
    show g (p v) S ⟨k + (pf (p v)).size, false⟩ = _
    rw [e2, ByteArray.size_append, Nat.add_assoc]
theorem Rd.to {α : Type} {f : Prs α} {pr pr' : α → ByteArray} {ok ok' : α → Prop} (h : Rd f pr ok) (h1 : ∀ v, ok' v ↔ ok v) (h2 : ∀ v, ok v → pr' v = pr v) : Rd f pr' ok' := by
  constructor
  · intro S x hx hb
    obtain ⟨a, b, c⟩ := h.so S x hx hb
    rw [h2 _ a]
    exact ⟨(h1 _).2 a, b, c⟩
  · intro S k v hk ho hl
    have o := (h1 _).1 ho
    rw [h2 _ o] at hl ⊢
    exact h.co S k v hk o hl
theorem rd_W {ws : List ByteArray} (hw : Wok ws) : Rd (yW ws) (fun i => ws.getD i.toNat ByteArray.empty) (fun i => 0 ≤ i ∧ i < ws.length) := by
  constructor
  · rintro S ⟨k, b⟩ hx hb
    obtain rfl : b = false := (gd_W ws).ok hb
    replace hb : (false || wdB S k ws) = false := hb
    cases e : wdF S k ws with
    | none => unfold wdB at hb; rw [e] at hb; cases hb
    | some i =>
      obtain ⟨i1, i2⟩ := at_wd e
      have eT : yW ws S ⟨k, false⟩ = ((i : Int), ⟨k + (ws.getD i ByteArray.empty).size, false⟩) := by
        show ((wdI S k ws, (⟨wdK S k ws, false || wdB S k ws⟩ : Sc)) : Int × Sc) = _
        unfold wdI wdK wdB
        rw [e]; rfl
      rw [eT]
      exact ⟨⟨by show (0 : Int) ≤ i; omega, by show (i : Int) < ws.length; omega⟩, by show LiesAt S k (ws.getD (i : Int).toNat _); rw [Int.toNat_natCast]; exact i2, by show k + _ = k + _; rw [Int.toNat_natCast]⟩
  · rintro S k v hk ⟨h1, h2⟩ hl
    obtain ⟨i, rfl⟩ : ∃ i : Nat, v = i := ⟨v.toNat, by omega⟩
    rw [Int.toNat_natCast] at hl ⊢
    have e := wd_at hw (show i < ws.length by omega) hl
    show ((wdI S k ws, (⟨wdK S k ws, false || wdB S k ws⟩ : Sc)) : Int × Sc) = _
    unfold wdI wdK wdB
    rw [e]; rfl
theorem rd_W1 {w : ByteArray} (hw : Wok [w]) : Rd (yW [w]) (fun _ => w) (fun i => i = 0) :=
  (rd_W hw).to (fun v => by show v = 0 ↔ (0 ≤ v ∧ v < 1); omega) (fun v h => by
    have h : 0 ≤ v ∧ v < 1 := h
    obtain rfl : v = 0 := by omega
    rfl)
/-! numbers -/
def dcF : Nat → Nat → ByteArray
  | 0, _ => ByteArray.empty
  | f + 1, n => if n < 10 then dgS.extract n (n + 1) else dcF f (n / 10) ++ dgS.extract (n % 10) (n % 10 + 1)
theorem dcF_ok : ∀ (f n : Nat), 1 ≤ f → (n : Int) < pw f → n < 10000000000 → DecOk n (dcF f n) := by
  intro f
  induction f with
  | zero => intro n h _ _; omega
  | succ f ih =>
    intro n _ hn h9
    unfold dcF
    by_cases c : n < 10
    · rw [if_pos c]; exact dec_one c
    · rw [if_neg c]
      have e : pw (f + 1) = 10 * pw f := rfl
      have f1 : 1 ≤ f := by
        rcases Nat.eq_zero_or_pos f with q | q
        · subst q
          have : pw 0 = 1 := rfl
          omega
        · exact q
      exact dec_more (by omega) h9 (ih (n / 10) f1 (by omega) (by omega))
def inT (n : Int) : Bool := decide (-9999999999 ≤ n) && decide (n ≤ 9999999999)
theorem inT_iff {n : Int} : inT n = true ↔ -9999999999 ≤ n ∧ n ≤ 9999999999 := by simp [inT]
theorem dec_of {n : Nat} (h : n < 10000000000) : DecOk n (dcF 10 n) := dcF_ok 10 n (by omega) (by have : pw 10 = 10000000000 := rfl; omega) h
/-- The decimal text of a number in the range of numbers. -/
def itB (n : Int) : ByteArray := if n < 0 then ⟨#[45]⟩ ++ dcF 10 n.natAbs else dcF 10 n.natAbs
theorem itB_pos {n : Nat} : itB (n : Int) = dcF 10 n := by unfold itB; rw [if_neg (by omega), Int.natAbs_natCast]
theorem itB_neg {n : Nat} (h : 1 ≤ n) : itB (-(n : Int)) = ⟨#[45]⟩ ++ dcF 10 n := by unfold itB; rw [if_pos (by omega), Int.natAbs_neg, Int.natAbs_natCast]
theorem dgs_out (n : Nat) : (Lib.decDigits n).length = (Lib.decDigits n).length := rfl
theorem nu_nat {S : ByteArray} {k n : Nat} {D : ByteArray} (hd : DecOk n D) (h1 : 1 ≤ n) (hk : k < S.size) (hm : bt S k = 45) (h : LiesAt S (k + 1) D) (hn : dg S (k + 1 + D.size) = false) : nuB S k = false ∧ nuK S k = k + 1 + D.size ∧ nuV S k = -(n : Int) := by
  obtain ⟨a1, a2, a3⟩ := nu_at hd h hn
  have l1 := hd.l1
  have l0 := dec_lead hd h1
  have b0 := h 0 (by omega)
  rw [Nat.add_zero] at b0
  have z1 : nuZ S (k + 1) = false := by unfold nuZ; rw [b0.2, dfalse (show ¬ bt D 0 = 48 by omega), Bool.and_false]
  have n1 : nuN S (k + 1) = false := by unfold nuN; rw [b0.2, dfalse (show ¬ bt D 0 = 45 by omega), Bool.and_false]
  have i1 : nuI S (k + 1) = k + 1 := by unfold nuI; rw [n1]; rfl
  have d1 : nuD S (k + 1) = true := by
    cases q : nuD S (k + 1)
    · unfold nuB at a1; rw [z1, q] at a1; cases a1
    · rfl
  have z0 : nuZ S k = false := by unfold nuZ; rw [hm]; simp
  have n0 : nuN S k = true := by unfold nuN; rw [hm, dtrue hk]; rfl
  have i0 : nuI S k = k + 1 := by unfold nuI; rw [n0]; rfl
  have d0 : nuD S k = true := by
    unfold nuD at d1 ⊢
    rw [i1] at d1
    rw [i0]; exact d1
  refine ⟨by unfold nuB; rw [z0, d0]; rfl, ?_, ?_⟩
  · unfold nuK at a2 ⊢
    rw [z1, d1, i1] at a2
    rw [z0, d0, i0]; exact a2
  · unfold nuV at a3 ⊢
    rw [z1, d1, n1, i1] at a3
    rw [z0, d0, n0, i0]
    show -vl S (k + 1) _ = _
    have a3 : vl S (k + 1) (dgs S (k + 1) 10) = (n : Int) := a3
    rw [a3]
/-- What ends a number: a word whose first byte is no digit. -/
def NoDg (e : ByteArray) : Prop := 1 ≤ e.size ∧ ¬ (48 ≤ bt e 0 ∧ bt e 0 ≤ 57)
def zN (e : ByteArray) : Prs Int := yB yNu fun n => yB (yW [e]) fun _ => yR n
def zI : Prs ByteArray := yB yI fun s => yB (yW [wSp]) fun _ => yR s
def zC (ws : List ByteArray) : Prs Int := yB (yW ws) fun i => yB (yW [wSp]) fun _ => yR i
theorem gd_zN (e : ByteArray) : Gk (zN e) := gd_B gd_N fun _ => gd_B (gd_W _) fun _ => gd_R _
theorem gd_zI : Gk zI := gd_B gd_I fun _ => gd_B (gd_W _) fun _ => gd_R _
theorem gd_zC (ws : List ByteArray) : Gk (zC ws) := gd_B (gd_W _) fun _ => gd_B (gd_W _) fun _ => gd_R _
theorem nu_ext {S : ByteArray} {k : Nat} (hk : k ≤ S.size) (h : nuB S k = false) : inT (nuV S k) = true ∧ itB (nuV S k) = S.extract k (nuK S k) ∧ k ≤ nuK S k ∧ nuK S k ≤ S.size := by
  have hle := nuK_le S k hk
  have small : ∀ {n : Nat} {D : ByteArray}, DecOk n D → n < 10000000000 := fun {n D} q => by
    have h1 := (vl_lt q.dgt q.l2).2
    rw [q.val] at h1
    omega
  rcases at_nu hk h with ⟨n, e, q⟩ | ⟨n, n1, e, k1, k2, q⟩
  · have hs := small q
    rw [e]
    refine ⟨inT_iff.2 ⟨by omega, by omega⟩, ?_, hle.1, hle.2⟩
    rw [itB_pos]
    exact dec_uniq (dec_of hs) q
  · have hs := small q
    rw [e]
    refine ⟨inT_iff.2 ⟨by omega, by omega⟩, ?_, hle.1, hle.2⟩
    rw [itB_neg n1, dec_uniq (dec_of hs) q]
    have l1 := q.l1
    have hK : k + 1 ≤ nuK S k := by
      rcases Nat.lt_or_ge (nuK S k) (k + 1) with g | g
      · rw [ByteArray.size_extract] at l1; omega
      · exact g
    have sz : (S.extract (k + 1) (nuK S k)).size = nuK S k - (k + 1) := ext_size hK hle.2
    refine bt_inj ?_ fun j hj => ?_
    · rw [ByteArray.size_append, sz, ext_size hle.1 hle.2]; show 1 + _ = _; omega
    · rw [ByteArray.size_append, sz] at hj
      have hj : j < 1 + (nuK S k - (k + 1)) := hj
      have er : bt (S.extract k (nuK S k)) j = bt S (k + j) := bt_ext (by omega)
      rw [bt_app, er]
      by_cases c : j < 1
      · obtain rfl : j = 0 := by omega
        rw [if_pos (show 0 < (ByteArray.mk #[45]).size by decide), Nat.add_zero, k2]; rfl
      · rw [if_neg (show ¬ j < (ByteArray.mk #[45]).size from c)]
        show bt (S.extract (k + 1) (nuK S k)) (j - 1) = _
        rw [bt_ext (by omega), show k + 1 + (j - 1) = k + j by omega]
theorem rd_zN {e : ByteArray} (he : NoDg e) (hw : Wok [e]) : Rd (zN e) (fun n => itB n ++ e) (fun n => inT n = true) := by
  constructor
  · rintro S ⟨k, b⟩ hx hb
    obtain rfl : b = false := (gd_zN e).ok hb
    replace hx : k ≤ S.size := hx
    have h1 : (yNu S ⟨k, false⟩).2.b = false := (gd_B (gd_W [e]) fun _ => gd_R _).ok hb
    have h1' : nuB S k = false := h1
    obtain ⟨a1, a2, a3, a4⟩ := nu_ext hx h1'
    have sz : (itB (nuV S k)).size = nuK S k - k := by rw [a2, ext_size a3 a4]
    obtain ⟨_, b2, b3⟩ := (rd_W1 hw).so S (yNu S ⟨k, false⟩).2 a4 hb
    refine ⟨a1, ?_, ?_⟩
    · show LiesAt S k (itB (nuV S k) ++ e)
      refine lies_join (fun j hj => ?_) ?_
      · rw [sz] at hj
        refine ⟨by omega, ?_⟩
        rw [a2, bt_ext (by omega)]
      · rw [sz, show k + (nuK S k - k) = nuK S k by omega]; exact b2
    · show _ = k + (itB (nuV S k) ++ e).size
      rw [ByteArray.size_append, sz]
      have b3 : (zN e S ⟨k, false⟩).2.k = nuK S k + e.size := b3
      rw [b3]; omega
  · intro S k v hk hv hl
    obtain ⟨l1, l2⟩ := lies_app hl
    obtain ⟨v1, v2⟩ := inT_iff.1 hv
    have he0 := l2 0 (by have := he.1; omega)
    rw [Nat.add_zero] at he0
    have hd : dg S (k + (itB v).size) = false := dg_no fun g => he.2 ⟨by rw [← he0.2]; exact g.2.1, by rw [← he0.2]; exact g.2.2⟩
    have key : nuB S k = false ∧ nuK S k = k + (itB v).size ∧ nuV S k = v := by
      rcases Int.lt_or_le v 0 with c | c
      · obtain ⟨n, rfl⟩ : ∃ n : Nat, v = -(n : Int) := ⟨v.natAbs, by omega⟩
        have n1 : 1 ≤ n := by omega
        rw [itB_neg n1] at l1 hd ⊢
        obtain ⟨m1, m2⟩ := lies_app l1
        have q0 := m1 0 (by decide)
        rw [Nat.add_zero] at q0
        have sz : ((⟨#[45]⟩ : ByteArray) ++ dcF 10 n).size = 1 + (dcF 10 n).size := by rw [ByteArray.size_append]; rfl
        rw [sz] at hd ⊢
        rw [← Nat.add_assoc] at hd ⊢
        exact nu_nat (dec_of (by omega)) n1 q0.1 q0.2 m2 hd
      · obtain ⟨n, rfl⟩ : ∃ n : Nat, v = (n : Int) := ⟨v.toNat, by omega⟩
        rw [itB_pos] at l1 hd ⊢
        exact nu_at (dec_of (by omega)) l1 hd
    obtain ⟨k1, k2, k3⟩ := key
    have eN : yNu S ⟨k, false⟩ = (v, ⟨k + (itB v).size, false⟩) := by
      show ((nuV S k, (⟨nuK S k, false || nuB S k⟩ : Sc)) : Int × Sc) = _
      rw [k1, k2, k3]; rfl
    have eW := (rd_W1 hw).co S (k + (itB v).size) 0 (l1.len hk) rfl l2
    show (yB (yW [e]) fun _ => yR (yNu S ⟨k, false⟩).1) S (yNu S ⟨k, false⟩).2 = _
    rw [eN]
    show yR v S (yW [e] S ⟨k + (itB v).size, false⟩).2 = _
    rw [eW, ByteArray.size_append, Nat.add_assoc]; rfl
theorem rd_zI : Rd zI (fun s => s ++ wSp) (fun s => idn s = true) := by
  constructor
  · rintro S ⟨k, b⟩ hx hb
    obtain rfl : b = false := gd_zI.ok hb
    replace hx : k ≤ S.size := hx
    have h1 : idB S k = false := (gd_B (gd_W [wSp]) fun _ => gd_R _).ok (f := yB (yW [wSp]) fun _ => yR (yI S ⟨k, false⟩).1) hb
    have hL := (idL_le S k hx).2
    have eV : idV S k = S.extract k (k + idL S k) := by unfold idV; rw [h1]; rfl
    have sz : (idV S k).size = idL S k := by rw [eV, ext_size (by omega) hL]; omega
    obtain ⟨_, b2, b3⟩ := (rd_W1 wds_wSp.ok).so S (yI S ⟨k, false⟩).2 hL hb
    refine ⟨?_, ?_, ?_⟩
    · show idn (idV S k) = true
      rw [eV, idn_fin hx, h1]; rfl
    · show LiesAt S k (idV S k ++ wSp)
      refine lies_join (fun j hj => ?_) ?_
      · rw [sz] at hj
        exact ⟨by omega, by rw [eV, bt_ext (by omega)]⟩
      · rw [sz]; exact b2
    · show _ = k + (idV S k ++ wSp).size
      rw [ByteArray.size_append, sz]
      have b3 : (zI S ⟨k, false⟩).2.k = k + idL S k + wSp.size := b3
      rw [b3, Nat.add_assoc]
  · intro S k v hk hv hl
    obtain ⟨l1, l2⟩ := lies_app hl
    have q0 := l2 0 (by decide)
    rw [Nat.add_zero] at q0
    have q1 : bt wSp 0 = 32 := by kernel_rfl
    have hi := id_at hk hv l1 (fun _ => by rw [q0.2, q1]; omega)
    have eV : idV S k = v := by
      unfold idV
      rw [hi.2, hi.1]
      show S.extract k (k + v.size) = v
      have hle := l1.len hk
      refine bt_inj (by rw [ext_size (by omega) hle]; omega) fun j hj => ?_
      rw [ext_size (by omega) hle] at hj
      rw [bt_ext (by omega), (l1 j (by omega)).2]
    have eN : yI S ⟨k, false⟩ = (v, ⟨k + v.size, false⟩) := by
      show ((idV S k, (⟨k + idL S k, false || idB S k⟩ : Sc)) : ByteArray × Sc) = _
      rw [eV, hi.1, hi.2]; rfl
    have eW := (rd_W1 wds_wSp.ok).co S (k + v.size) 0 (l1.len hk) rfl l2
    show (yB (yW [wSp]) fun _ => yR (yI S ⟨k, false⟩).1) S (yI S ⟨k, false⟩).2 = _
    rw [eN]
    show yR v S (yW [wSp] S ⟨k + v.size, false⟩).2 = _
    rw [eW, ByteArray.size_append, Nat.add_assoc]; rfl
/-- A word, then the rest. -/
theorem rd_WB {α : Type} {w : ByteArray} (hw : Wok [w]) {f : Prs α} {pr : α → ByteArray} {ok : α → Prop} (h : Rd f pr ok) (G : Gk f) : Rd (yB (yW [w]) fun _ => f) (fun v => w ++ pr v) ok := by
  constructor
  · intro S x hx hb
    have h1 : (yW [w] S x).2.b = false := G.ok hb
    obtain ⟨_, a2, a3⟩ := (rd_W1 hw).so S x hx h1
    have hk := ((gd_W [w]).le S x hx).2
    obtain ⟨b1, b2, b3⟩ := h.so S (yW [w] S x).2 hk hb
    refine ⟨b1, ?_, ?_⟩
    · rw [a3] at b2; exact lies_join a2 b2
    · show (f S (yW [w] S x).2).2.k = x.k + (w ++ pr (f S (yW [w] S x).2).1).size
      rw [b3, a3, ByteArray.size_append, Nat.add_assoc]
  · intro S k v hk ho hl
    obtain ⟨l1, l2⟩ := lies_app hl
    have e1 := (rd_W1 hw).co S k 0 hk rfl l1
    show f S (yW [w] S ⟨k, false⟩).2 = _
    rw [e1]
    show f S ⟨k + w.size, false⟩ = _
    rw [h.co S _ v (l1.len hk) ho l2, ByteArray.size_append, Nat.add_assoc]
theorem rd_zC {ws : List ByteArray} (hw : Wok ws) : Rd (zC ws) (fun i => ws.getD i.toNat ByteArray.empty ++ (wSp ++ ByteArray.empty)) (fun i => (0 ≤ i ∧ i < ws.length) ∧ i = i) :=
  rd_B (fun v => v) (rd_W hw) (okg := fun a v => v = a) (fun a _ => rd_WB wds_wSp.ok (rd_R a) (gd_R a)) (fun _ _ h => h) (gd_W _) (fun _ => gd_B (gd_W _) fun _ => gd_R _)
end Go.Proofs.YthmfhgehahpgbaaGreatDoor
