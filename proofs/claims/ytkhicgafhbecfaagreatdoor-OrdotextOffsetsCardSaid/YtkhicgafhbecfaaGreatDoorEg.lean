/- A calendar's text, plain: how it is read (kBody) and how it is written (txK); what every step keeps; a text cut off or spoilt (kbody_sm). -/
import Derived.Test.YtkhicgafhbecfaaGreatDoorP1
namespace Go.Proofs.YtkhicgafhbecfaaGreatDoor
open Go.RowKit

/-- An entry of a calendar. -/
structure Ent where
  y : Int
  m : Int
  d : Int
  wd : Int
  se : ByteArray
  wk : Int
  ki : Int
  pr : ByteArray
  rk : Int
  fy : Int
  fm : Int
  fd : Int
  co : List ByteArray
  om : List ByteArray
structure Kal where
  y : Int
  es : List Ent
def wCl : ByteArray := ⟨#[99, 97, 108, 101, 110, 100, 97, 114, 32]⟩
def wDay : ByteArray := ⟨#[100, 97, 121]⟩
def wFm : ByteArray := ⟨#[32, 102, 114, 111, 109, 32]⟩
def wWo : ByteArray := ⟨#[32, 119, 105, 116, 104, 111, 117, 116, 32]⟩
def wWi : ByteArray := ⟨#[32, 119, 105, 116, 104, 32]⟩
def lKi : List ByteArray := [⟨#[116, 101, 109, 112, 111, 114, 97, 108]⟩, ⟨#[112, 114, 111, 112, 101, 114]⟩, ⟨#[109, 111, 118, 101, 100]⟩]
def lDE : List ByteArray := [wDay, wEnd]
def lO3 : List ByteArray := [wLf, wWo, wWi]
def lO2 : List ByteArray := [wLf, wWo]
def lO (t : Bool) : List ByteArray := if t then lO2 else lO3
theorem wds_wCl : Wds [wCl] := wds_of (by kernel_rfl) (by kernel_rfl) (by kernel_rfl) (by kernel_rfl)
theorem wds_wDay : Wds [wDay] := wds_of (by kernel_rfl) (by kernel_rfl) (by kernel_rfl) (by kernel_rfl)
theorem wds_wFm : Wds [wFm] := wds_of (by kernel_rfl) (by kernel_rfl) (by kernel_rfl) (by kernel_rfl)
theorem wds_wWo : Wds [wWo] := wds_of (by kernel_rfl) (by kernel_rfl) (by kernel_rfl) (by kernel_rfl)
theorem wds_wWi : Wds [wWi] := wds_of (by kernel_rfl) (by kernel_rfl) (by kernel_rfl) (by kernel_rfl)
theorem wds_lKi : Wds lKi := wds_of (by kernel_rfl) (by kernel_rfl) (by kernel_rfl) (by kernel_rfl)
theorem wds_lDE : Wds lDE := wds_of (by kernel_rfl) (by kernel_rfl) (by kernel_rfl) (by kernel_rfl)
theorem wds_lO3 : Wds lO3 := wds_of (by kernel_rfl) (by kernel_rfl) (by kernel_rfl) (by kernel_rfl)
theorem wds_lO2 : Wds lO2 := wds_of (by kernel_rfl) (by kernel_rfl) (by kernel_rfl) (by kernel_rfl)
theorem n33_wCl : No33 [wCl] := no33_of (by kernel_rfl)
theorem n33_wDay : No33 [wDay] := no33_of (by kernel_rfl)
theorem n33_wFm : No33 [wFm] := no33_of (by kernel_rfl)
theorem n33_wWo : No33 [wWo] := no33_of (by kernel_rfl)
theorem n33_wWi : No33 [wWi] := no33_of (by kernel_rfl)
theorem n33_lKi : No33 lKi := no33_of (by kernel_rfl)
theorem n33_lDE : No33 lDE := no33_of (by kernel_rfl)
theorem n33_lO3 : No33 lO3 := no33_of (by kernel_rfl)
theorem n33_lO2 : No33 lO2 := no33_of (by kernel_rfl)
theorem wds_lO (t : Bool) : Wds (lO t) := by cases t; exact wds_lO3; exact wds_lO2
theorem n33_lO (t : Bool) : No33 (lO t) := by cases t; exact n33_lO3; exact n33_lO2
/-! reading -/
def kFrm (k y : Int) : Prs (Int × Int × Int) := if k = 3 then yB (yW [wFm]) fun _ => yB yNu fun m => yB (yW [wSp]) fun _ => yB yNu fun d => yR (y, m, d) else yR (0, 0, 0)
def kOth : Nat → Bool → List ByteArray → List ByteArray → Prs (List ByteArray × List ByteArray)
  | 0, _, co, om => yB (yW [wLf]) fun _ => yR (co, om)
  | n + 1, t, co, om => yB (yW (lO t)) fun i => if i = 2 then yB yI fun s => kOth n t (co ++ [s]) om else if i = 1 then yB yI fun s => kOth n true co (om ++ [s]) else yR (co, om)
def kRst (N : Nat) (y m d wd : Int) (se : ByteArray) (wk ki : Int) (pr : ByteArray) (rk : Int) : Prs Ent := yB (kFrm ki y) fun f => yB (kOth N false [] []) fun z => yR ⟨y, m, d, wd, se, wk, ki, pr, rk, f.1, f.2.1, f.2.2, z.1, z.2⟩
def kE8 (N : Nat) (y m d wd : Int) (se : ByteArray) (wk ki : Int) (pr : ByteArray) : Prs Ent := yB (yW [wSp]) fun _ => yB yNu fun rk => kRst N y m d wd se wk ki pr rk
def kE7 (N : Nat) (y m d wd : Int) (se : ByteArray) (wk ki : Int) : Prs Ent := yB (yW [wSp]) fun _ => yB yI fun pr => kE8 N y m d wd se wk ki pr
def kE6 (N : Nat) (y m d wd : Int) (se : ByteArray) (wk : Int) : Prs Ent := yB (yW [wSp]) fun _ => yB (yW lKi) fun ki => kE7 N y m d wd se wk (1 + ki)
def kE5 (N : Nat) (y m d wd : Int) (se : ByteArray) : Prs Ent := yB (yW [wSp]) fun _ => yB yNu fun wk => kE6 N y m d wd se wk
def kE4 (N : Nat) (y m d wd : Int) : Prs Ent := yB (yW [wSp]) fun _ => yB yI fun se => kE5 N y m d wd se
def kE3 (N : Nat) (y m d : Int) : Prs Ent := yB (yW [wSp]) fun _ => yB (yW lWd) fun wd => kE4 N y m d wd
def kE2 (N : Nat) (y m : Int) : Prs Ent := yB (yW [wSp]) fun _ => yB yNu fun d => kE3 N y m d
def kEnt (N : Nat) (y : Int) : Prs Ent := yB (yW [wSp]) fun _ => yB yNu fun m => kE2 N y m
def kDays (N : Nat) (y : Int) : Nat → List Ent → Prs (List Ent)
  | 0, l => yB (yW [wEnd]) fun _ => yR l
  | n + 1, l => yB (yW lDE) fun i => if i = 0 then yB (kEnt N y) fun e => kDays N y n (l ++ [e]) else yR l
def kBody (N : Nat) : Prs Kal := yB (yW [wCl]) fun _ => yB yNu fun y => yB (yW [wLf]) fun _ => yB (kDays N y N []) fun es => yR ⟨y, es⟩
/-- Where the scanner stands at the end, and whether it has failed. -/
def kEnd (N : Nat) (S : ByteArray) : Sc := ⟨(kBody N S ⟨0, false⟩).2.k, feB (kBody N S ⟨0, false⟩).2.b S (kBody N S ⟨0, false⟩).2.k⟩
/-! writing -/
def txs2 (w : ByteArray) : List ByteArray → ByteArray
  | [] => ByteArray.empty
  | s :: l => w ++ (s ++ txs2 w l)
def txKi (k : Int) : ByteArray := if k = 1 then ⟨#[116, 101, 109, 112, 111, 114, 97, 108]⟩ else if k = 2 then ⟨#[112, 114, 111, 112, 101, 114]⟩ else ⟨#[109, 111, 118, 101, 100]⟩
def txFr (e : Ent) : ByteArray := if e.ki = 3 then wFm ++ (itB e.fm ++ (wSp ++ itB e.fd)) else ByteArray.empty
def txOt (e : Ent) : ByteArray := txs2 wWi e.co ++ (txs2 wWo e.om ++ wLf)
def txE (e : Ent) : ByteArray := wSp ++ (itB e.m ++ (wSp ++ (itB e.d ++ (wSp ++ (nm e.wd ++ (wSp ++ (e.se ++ (wSp ++ (itB e.wk ++ (wSp ++ (txKi e.ki ++ (wSp ++ (e.pr ++ (wSp ++ (itB e.rk ++ (txFr e ++ txOt e))))))))))))))))
def txEs : List Ent → ByteArray
  | [] => ByteArray.empty
  | e :: l => (wDay ++ txE e) ++ txEs l
def txK (k : Kal) : ByteArray := wCl ++ (itB k.y ++ (wLf ++ (txEs k.es ++ wEnd)))
/-! printable -/
def okE (y : Int) (e : Ent) : Bool := (decide (e.y = y) && (inT e.m && (inT e.d && (inT e.wk && (inT e.rk && (decide (0 ≤ e.wd) && (decide (e.wd ≤ 6) && (decide (1 ≤ e.ki) && decide (e.ki ≤ 3))))))))) && ((if e.ki = 3 then decide (e.fy = y) && (inT e.fm && inT e.fd) else decide (e.fy = 0) && (decide (e.fm = 0) && decide (e.fd = 0))) && (idn e.se && (idn e.pr && (e.co.all idn && e.om.all idn))))
def okK (k : Kal) : Bool := inT k.y && k.es.all (okE k.y)
/-! what every step keeps -/
theorem gd_if {α : Type} {c : Prop} [Decidable c] {f g : Prs α} (hf : Gk f) (hg : Gk g) : Gk (if c then f else g) := by split; exact hf; exact hg
theorem gk_Frm (k y : Int) : Gk (kFrm k y) := gd_if (gd_B (gd_W _) fun _ => gd_B gd_N fun _ => gd_B (gd_W _) fun _ => gd_B gd_N fun _ => gd_R _) (gd_R _)
theorem gk_Oth : ∀ (n : Nat) (t : Bool) (co om : List ByteArray), Gk (kOth n t co om)
  | 0, _, _, _ => gd_B (gd_W _) fun _ => gd_R _
  | n + 1, _, _, _ => gd_B (gd_W _) fun _ => gd_if (gd_B gd_I fun _ => gk_Oth n _ _ _) (gd_if (gd_B gd_I fun _ => gk_Oth n _ _ _) (gd_R _))
section
variable (N : Nat) (y : Int)
theorem gk_Rst (m d wd : Int) (se : ByteArray) (wk ki : Int) (pr : ByteArray) (rk : Int) : Gk (kRst N y m d wd se wk ki pr rk) := gd_B (gk_Frm _ _) fun _ => gd_B (gk_Oth _ _ _ _) fun _ => gd_R _
theorem gk_E8 (m d wd : Int) (se : ByteArray) (wk ki : Int) (pr : ByteArray) : Gk (kE8 N y m d wd se wk ki pr) := gd_B (gd_W _) fun _ => gd_B gd_N fun _ => gk_Rst N y _ _ _ _ _ _ _ _
theorem gk_E7 (m d wd : Int) (se : ByteArray) (wk ki : Int) : Gk (kE7 N y m d wd se wk ki) := gd_B (gd_W _) fun _ => gd_B gd_I fun _ => gk_E8 N y _ _ _ _ _ _ _
theorem gk_E6 (m d wd : Int) (se : ByteArray) (wk : Int) : Gk (kE6 N y m d wd se wk) := gd_B (gd_W _) fun _ => gd_B (gd_W _) fun _ => gk_E7 N y _ _ _ _ _ _
theorem gk_E5 (m d wd : Int) (se : ByteArray) : Gk (kE5 N y m d wd se) := gd_B (gd_W _) fun _ => gd_B gd_N fun _ => gk_E6 N y _ _ _ _ _
theorem gk_E4 (m d wd : Int) : Gk (kE4 N y m d wd) := gd_B (gd_W _) fun _ => gd_B gd_I fun _ => gk_E5 N y _ _ _ _
theorem gk_E3 (m d : Int) : Gk (kE3 N y m d) := gd_B (gd_W _) fun _ => gd_B (gd_W _) fun _ => gk_E4 N y _ _ _
theorem gk_E2 (m : Int) : Gk (kE2 N y m) := gd_B (gd_W _) fun _ => gd_B gd_N fun _ => gk_E3 N y _ _
theorem gk_Ent : Gk (kEnt N y) := gd_B (gd_W _) fun _ => gd_B gd_N fun _ => gk_E2 N y _
theorem gk_Days : ∀ (n : Nat) (l : List Ent), Gk (kDays N y n l)
  | 0, _ => gd_B (gd_W _) fun _ => gd_R _
  | n + 1, _ => gd_B (gd_W _) fun _ => gd_if (gd_B (gk_Ent N y) fun _ => gk_Days n _) (gd_R _)
end
theorem gk_Body (N : Nat) : Gk (kBody N) := gd_B (gd_W _) fun _ => gd_B gd_N fun _ => gd_B (gd_W _) fun _ => gd_B (gk_Days N _ _ _) fun _ => gd_R _
theorem kEnd_le (N : Nat) (S : ByteArray) : (kEnd N S).k ≤ S.size := ((gk_Body N).le S ⟨0, false⟩ (Nat.zero_le _)).2
/-! two texts -/
section
variable {S T : ByteArray} {k : Nat}
/-- A step that is alike on both texts, and is stuck where they part. -/
structure Dd (S T : ByteArray) (k : Nat) {α : Type} (f : Prs α) : Prop where
  g : Gk f
  s : SmB S T k f
  p : KpB S k f
theorem dd_W (A : Agr S T k) {ws : List ByteArray} (hw : Wds ws) (h3 : No33 ws) {α : Type} {g : Int → Prs α} (hg : ∀ i, Gk (g i)) (hs : ∀ i, SmB S T k (g i)) : Dd S T k (yB (yW ws) g) :=
  ⟨gd_B (gd_W _) hg, smB_B (smB_W A hw.ok h3) hs hg A.hT (gd_W _), kpB_B (kpB_W A hw.ok h3) hg⟩
theorem dd_N (A : Agr S T k) {α : Type} {g : Int → Prs α} (hg : ∀ i, Dd S T k (g i)) : Dd S T k (yB yNu g) :=
  ⟨gd_B gd_N fun i => (hg i).g, smB_Bw (smW_N A) (fun i => (hg i).s) (fun i => (hg i).p) (fun i => (hg i).g) A.hT gd_N, kpB_Bw (kpW_N A) fun i => (hg i).p⟩
theorem dd_I (A : Agr S T k) {α : Type} {g : ByteArray → Prs α} (hg : ∀ i, Dd S T k (g i)) : Dd S T k (yB yI g) :=
  ⟨gd_B gd_I fun i => (hg i).g, smB_Bw (smW_I A) (fun i => (hg i).s) (fun i => (hg i).p) (fun i => (hg i).g) A.hT gd_I, kpB_Bw (kpW_I A) fun i => (hg i).p⟩
theorem dd_WD (A : Agr S T k) {ws : List ByteArray} (hw : Wds ws) (h3 : No33 ws) {α : Type} {g : Int → Prs α} (hg : ∀ i, Dd S T k (g i)) : Dd S T k (yB (yW ws) g) := dd_W A hw h3 (fun i => (hg i).g) fun i => (hg i).s
theorem dd_Oth (A : Agr S T k) : ∀ (n : Nat) (t : Bool) (co om : List ByteArray) {α : Type} (v : List ByteArray × List ByteArray → α), Dd S T k (yB (kOth n t co om) fun z => yR (v z))
  | 0, _, co, om, _, v => dd_W A (ws := [wLf]) (g := fun _ => yR (v (co, om))) wds_wLf n33_wLf (fun _ => gd_R _) fun _ => smB_R _
  | n + 1, t, co, om, α, v => by
    have key : ∀ i : Int, (yB (if i = 2 then yB yI fun s => kOth n t (co ++ [s]) om else if i = 1 then yB yI fun s => kOth n true co (om ++ [s]) else yR (co, om)) fun z => yR (v z)) =
        (if i = 2 then yB yI fun s => yB (kOth n t (co ++ [s]) om) fun z => yR (v z) else if i = 1 then yB yI fun s => yB (kOth n true co (om ++ [s])) fun z => yR (v z) else yR (v (co, om))) := fun i => by
      split
      · rfl
      · split <;> rfl
    have e : (yB (kOth (n + 1) t co om) fun z => yR (v z)) = yB (yW (lO t)) fun i => (if i = 2 then yB yI fun s => yB (kOth n t (co ++ [s]) om) fun z => yR (v z) else if i = 1 then yB yI fun s => yB (kOth n true co (om ++ [s])) fun z => yR (v z) else yR (v (co, om))) := by
      show (yB (yW (lO t)) fun i => yB (if i = 2 then yB yI fun s => kOth n t (co ++ [s]) om else if i = 1 then yB yI fun s => kOth n true co (om ++ [s]) else yR (co, om)) fun z => yR (v z)) = _
      simp only [key]
    rw [e]
    have h2 := fun s => dd_Oth A n t (co ++ [s]) om v
    have h1 := fun s => dd_Oth A n true co (om ++ [s]) v
    refine dd_W A (wds_lO t) (n33_lO t) (fun i => gd_if (dd_I A h2).g (gd_if (dd_I A h1).g (gd_R _))) fun i => ?_
    split
    · exact (dd_I A h2).s
    · split
      · exact (dd_I A h1).s
      · exact smB_R _
theorem dd_Rst (A : Agr S T k) (N : Nat) (y m d wd : Int) (se : ByteArray) (wk ki : Int) (pr : ByteArray) (rk : Int) : Dd S T k (kRst N y m d wd se wk ki pr rk) := by
  have h := fun f : Int × Int × Int => dd_Oth A N false [] [] (fun z => (⟨y, m, d, wd, se, wk, ki, pr, rk, f.1, f.2.1, f.2.2, z.1, z.2⟩ : Ent))
  unfold kRst kFrm
  by_cases c : ki = 3
  · rw [if_pos c]
    exact dd_WD A (ws := [wFm]) wds_wFm n33_wFm (g := fun _ => yB yNu fun m' => yB (yW [wSp]) fun _ => yB yNu fun d' => yB (kOth N false [] []) fun z => yR (⟨y, m, d, wd, se, wk, ki, pr, rk, y, m', d', z.1, z.2⟩ : Ent)) fun _ =>
      dd_N A fun m' => dd_WD A wds_wSp n33_wSp fun _ => dd_N A fun d' => h (y, m', d')
  · rw [if_neg c]
    exact h (0, 0, 0)
theorem dd_Ent (A : Agr S T k) (N : Nat) (y : Int) : Dd S T k (kEnt N y) :=
  dd_WD A wds_wSp n33_wSp fun _ => dd_N A fun _ => dd_WD A wds_wSp n33_wSp fun _ => dd_N A fun _ => dd_WD A wds_wSp n33_wSp fun _ => dd_WD A wds_lWd n33_lWd fun _ => dd_WD A wds_wSp n33_wSp fun _ => dd_I A fun _ => dd_WD A wds_wSp n33_wSp fun _ => dd_N A fun _ =>
  dd_WD A wds_wSp n33_wSp fun _ => dd_WD A wds_lKi n33_lKi fun _ => dd_WD A wds_wSp n33_wSp fun _ => dd_I A fun _ => dd_WD A wds_wSp n33_wSp fun _ => dd_N A fun _ => dd_Rst A N y _ _ _ _ _ _ _ _
theorem dd_Days (A : Agr S T k) (N : Nat) (y : Int) {α : Type} (v : List Ent → α) : ∀ (n : Nat) (l : List Ent), Dd S T k (yB (kDays N y n l) fun z => yR (v z))
  | 0, l => dd_W A (ws := [wEnd]) (g := fun _ => yR (v l)) wds_wEnd n33_wEnd (fun _ => gd_R _) fun _ => smB_R _
  | n + 1, l => by
    have key : ∀ i : Int, (yB (if i = 0 then yB (kEnt N y) fun e => kDays N y n (l ++ [e]) else yR l) fun z => yR (v z)) = (if i = 0 then yB (kEnt N y) fun e => yB (kDays N y n (l ++ [e])) fun z => yR (v z) else yR (v l)) := fun i => by split <;> rfl
    have e : (yB (kDays N y (n + 1) l) fun z => yR (v z)) = yB (yW lDE) fun i => (if i = 0 then yB (kEnt N y) fun e => yB (kDays N y n (l ++ [e])) fun z => yR (v z) else yR (v l)) := by
      show (yB (yW lDE) fun i => yB (if i = 0 then yB (kEnt N y) fun e => kDays N y n (l ++ [e]) else yR l) fun z => yR (v z)) = _
      simp only [key]
    rw [e]
    have h := fun e => dd_Days A N y v n (l ++ [e])
    refine dd_W A wds_lDE n33_lDE (fun i => gd_if (gd_B (gk_Ent N y) fun e => (h e).g) (gd_R _)) fun i => ?_
    split
    · exact smB_B (dd_Ent A N y).s (fun e => (h e).s) (fun e => (h e).g) A.hT (gk_Ent N y)
    · exact smB_R _
/-- A text that agrees with one that is read to its end, and is dead at k: it has failed at k, or has been read alike. -/
theorem kbody_sm (A : Agr S T k) (N : Nat) : SmB S T k (kBody N) :=
  (dd_WD A wds_wCl n33_wCl fun _ => dd_N A fun y => dd_WD A wds_wLf n33_wLf fun _ => dd_Days A N y (fun es => (⟨y, es⟩ : Kal)) N []).s
end
end Go.Proofs.YtkhicgafhbecfaaGreatDoor
