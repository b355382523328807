/- What is accepted as a calendar's text (kbody_so), and what a calendar's text is read to (kbody_co): plain. -/
import Derived.Test.YtkhicgafhbecfaaGreatDoorEh
namespace Go.Proofs.YtkhicgafhbecfaaGreatDoor
open Go.RowKit

theorem oth_rf (n : Nat) : Rf anyB (kOth n false [] []) (fun z => txs2 wWi z.1 ++ (txs2 wWo z.2 ++ wLf)) (fun z => z.1.length + z.2.length ≤ n ∧ (∀ s ∈ z.1, idn s = true) ∧ (∀ s ∈ z.2, idn s = true)) := by
  constructor
  · intro S x hx hb
    obtain ⟨c1, o1, ⟨d1, d2, d3, d4, _⟩, d6, d7⟩ := oth_so n false [] [] S x hx hb
    rw [List.nil_append, List.nil_append] at d1
    rw [d1]
    exact ⟨⟨d2, d3, d4⟩, d6, d7⟩
  · rintro S k ⟨c1, o1⟩ hk ⟨d2, d3, d4⟩ hl _
    have := oth_co n false [] [] c1 o1 S k hk d2 d3 d4 (fun h => by cases h) hl
    rw [List.nil_append, List.nil_append] at this
    exact this
theorem fst_sp (x : ByteArray) : 1 ≤ (wSp ++ x).size ∧ bt (wSp ++ x) 0 = 32 := by
  have := fst_app (a := wSp) (b := x) (by decide)
  exact ⟨this.1, this.2.trans (by decide)⟩
/-- What the end of an entry's line owes: the kind's date, the lists. -/
def okX (N : Nat) (y : Int) (e : Ent) : Prop :=
  ((e.ki = 3 ∧ e.fy = y ∧ inT e.fm = true ∧ inT e.fd = true) ∨ (e.ki ≠ 3 ∧ e.fy = 0 ∧ e.fm = 0 ∧ e.fd = 0)) ∧ e.co.length + e.om.length ≤ N ∧ (∀ s ∈ e.co, idn s = true) ∧ (∀ s ∈ e.om, idn s = true)
section
variable (N : Nat) (y m d wd : Int) (se : ByteArray) (wk ki : Int) (pr : ByteArray) (rk : Int)
theorem rf_oth1 (fy fm fd : Int) : Rf anyB (yB (kOth N false [] []) fun z => yR (⟨y, m, d, wd, se, wk, ki, pr, rk, fy, fm, fd, z.1, z.2⟩ : Ent)) (fun e => (txs2 wWi e.co ++ (txs2 wWo e.om ++ wLf)) ++ ByteArray.empty)
    (fun e => ((e.co.length + e.om.length ≤ N ∧ (∀ s ∈ e.co, idn s = true) ∧ (∀ s ∈ e.om, idn s = true)) ∧ e = ⟨y, m, d, wd, se, wk, ki, pr, rk, fy, fm, fd, e.co, e.om⟩)) := by
  constructor
  · intro S x hx hb
    have h1 : (kOth N false [] [] S x).2.b = false := hb
    obtain ⟨a1, a2, a3⟩ := (oth_rf N).so S x hx h1
    refine ⟨⟨a1, rfl⟩, ?_, ?_⟩
    · show LiesAt S x.k ((txs2 wWi (kOth N false [] [] S x).1.1 ++ (txs2 wWo (kOth N false [] [] S x).1.2 ++ wLf)) ++ ByteArray.empty)
      rw [ByteArray.append_empty]; exact a2
    · show (kOth N false [] [] S x).2.k = x.k + ((txs2 wWi (kOth N false [] [] S x).1.1 ++ (txs2 wWo (kOth N false [] [] S x).1.2 ++ wLf)) ++ ByteArray.empty).size
      rw [ByteArray.append_empty]; exact a3
  · rintro S k e hk ⟨o1, o2⟩ hl hf
    rw [ByteArray.append_empty] at hl ⊢
    have := (oth_rf N).co S k (e.co, e.om) hk o1 hl trivial
    show ((⟨y, m, d, wd, se, wk, ki, pr, rk, fy, fm, fd, (kOth N false [] [] S ⟨k, false⟩).1.1, (kOth N false [] [] S ⟨k, false⟩).1.2⟩ : Ent), (kOth N false [] [] S ⟨k, false⟩).2) = _
    rw [this]
    show ((⟨y, m, d, wd, se, wk, ki, pr, rk, fy, fm, fd, e.co, e.om⟩ : Ent), _) = _
    rw [← o2]
theorem rf_oth (fy fm fd : Int) : Rf anyB (yB (kOth N false [] []) fun z => yR (⟨y, m, d, wd, se, wk, ki, pr, rk, fy, fm, fd, z.1, z.2⟩ : Ent)) txOt
    (fun e => ((e.co.length + e.om.length ≤ N ∧ (∀ s ∈ e.co, idn s = true) ∧ (∀ s ∈ e.om, idn s = true)) ∧ e = ⟨y, m, d, wd, se, wk, ki, pr, rk, fy, fm, fd, e.co, e.om⟩)) :=
  (rf_oth1 N y m d wd se wk ki pr rk fy fm fd).to (fun _ => Iff.rfl) (fun e _ => by rw [ByteArray.append_empty]; rfl)
theorem txOt_fst (e : Ent) : 1 ≤ (txOt e).size ∧ (bt (txOt e) 0 = 32 ∨ bt (txOt e) 0 = 10) := txo_fst e.co e.om
theorem gk_oth1 (fy fm fd : Int) : Gk (yB (kOth N false [] []) fun z => yR (⟨y, m, d, wd, se, wk, ki, pr, rk, fy, fm, fd, z.1, z.2⟩ : Ent)) := gd_B (gk_Oth _ _ _ _) fun _ => gd_R _
theorem rf_frm2 (fm : Int) : Rf anyB (yB yNu fun fd => yB (kOth N false [] []) fun z => yR (⟨y, m, d, wd, se, wk, ki, pr, rk, y, fm, fd, z.1, z.2⟩ : Ent)) (fun e => itB e.fd ++ txOt e)
    (fun e => inT e.fd = true ∧ ((e.co.length + e.om.length ≤ N ∧ (∀ s ∈ e.co, idn s = true) ∧ (∀ s ∈ e.om, idn s = true)) ∧ e = ⟨y, m, d, wd, se, wk, ki, pr, rk, y, fm, e.fd, e.co, e.om⟩)) :=
  rf_B (fun e => e.fd) rf_N (pg := txOt) (okg := fun fd e => ((e.co.length + e.om.length ≤ N ∧ (∀ s ∈ e.co, idn s = true) ∧ (∀ s ∈ e.om, idn s = true)) ∧ e = ⟨y, m, d, wd, se, wk, ki, pr, rk, y, fm, fd, e.co, e.om⟩)) (fun fd _ => rf_oth N y m d wd se wk ki pr rk y fm fd) (fun fd e h => by rw [h.2]) (fun _ e _ _ => ⟨(txOt_fst e).1, nodg_of (txOt_fst e).2⟩) gd_N (fun fd => gk_oth1 N y m d wd se wk ki pr rk y fm fd)
theorem rf_frm1 : Rf anyB (yB yNu fun fm => yB (yW [wSp]) fun _ => yB yNu fun fd => yB (kOth N false [] []) fun z => yR (⟨y, m, d, wd, se, wk, ki, pr, rk, y, fm, fd, z.1, z.2⟩ : Ent)) (fun e => itB e.fm ++ (wSp ++ (itB e.fd ++ txOt e)))
    (fun e => inT e.fm = true ∧ (inT e.fd = true ∧ ((e.co.length + e.om.length ≤ N ∧ (∀ s ∈ e.co, idn s = true) ∧ (∀ s ∈ e.om, idn s = true)) ∧ e = ⟨y, m, d, wd, se, wk, ki, pr, rk, y, e.fm, e.fd, e.co, e.om⟩))) :=
  rf_B (fun e => e.fm) rf_N (pg := fun e => wSp ++ (itB e.fd ++ txOt e)) (okg := fun fm e => inT e.fd = true ∧ ((e.co.length + e.om.length ≤ N ∧ (∀ s ∈ e.co, idn s = true) ∧ (∀ s ∈ e.om, idn s = true)) ∧ e = ⟨y, m, d, wd, se, wk, ki, pr, rk, y, fm, e.fd, e.co, e.om⟩)) (fun fm _ => rf_WB wds_wSp.ok (rf_frm2 N y m d wd se wk ki pr rk fm) (gd_B gd_N fun _ => gk_oth1 N y m d wd se wk ki pr rk y fm _)) (fun fm e h => by rw [h.2.2]) (fun _ e _ _ => ⟨(fst_sp _).1, nodg_of (.inl (fst_sp _).2)⟩) gd_N (fun fm => gd_B (gd_W _) fun _ => gd_B gd_N fun _ => gk_oth1 N y m d wd se wk ki pr rk y fm _)
theorem rf_Rst : Rf anyB (kRst N y m d wd se wk ki pr rk) (fun e => txFr e ++ txOt e) (fun e => okX N y e ∧ e = ⟨y, m, d, wd, se, wk, ki, pr, rk, e.fy, e.fm, e.fd, e.co, e.om⟩) := by
  by_cases c : ki = 3
  · have eK : kRst N y m d wd se wk ki pr rk = yB (yW [wFm]) fun _ => yB yNu fun fm => yB (yW [wSp]) fun _ => yB yNu fun fd => yB (kOth N false [] []) fun z => yR (⟨y, m, d, wd, se, wk, ki, pr, rk, y, fm, fd, z.1, z.2⟩ : Ent) := by
      unfold kRst kFrm; rw [if_pos c]; rfl
    rw [eK]
    refine (rf_WB wds_wFm.ok (rf_frm1 N y m d wd se wk ki pr rk) (gd_B gd_N fun fm => gd_B (gd_W _) fun _ => gd_B gd_N fun _ => gk_oth1 N y m d wd se wk ki pr rk y fm _)).to (fun e => ⟨?_, ?_⟩) fun e h => ?_
    · rintro ⟨⟨h1, h2⟩, h3⟩
      have hk : e.ki = 3 := by rw [h3]; exact c
      rcases h1 with ⟨_, h4, h5, h6⟩ | ⟨h4, _⟩
      · exact ⟨h5, h6, h2, by rw [h4] at h3; exact h3⟩
      · exact absurd hk h4
    · rintro ⟨h1, h2, h3, h4⟩
      exact ⟨⟨.inl ⟨by rw [h4]; exact c, by rw [h4], h1, h2⟩, h3⟩, by
        have : e.fy = y := by rw [h4]
        rw [this]; exact h4⟩
    · obtain ⟨_, _, _, h4⟩ := h
      have hk : e.ki = 3 := by rw [h4]; exact c
      unfold txFr
      rw [if_pos hk]
      simp only [ByteArray.append_assoc]
  · have eK : kRst N y m d wd se wk ki pr rk = yB (kOth N false [] []) fun z => yR (⟨y, m, d, wd, se, wk, ki, pr, rk, 0, 0, 0, z.1, z.2⟩ : Ent) := by
      unfold kRst kFrm; rw [if_neg c]; rfl
    rw [eK]
    refine (rf_oth N y m d wd se wk ki pr rk 0 0 0).to (fun e => ⟨?_, ?_⟩) fun e h => ?_
    · rintro ⟨⟨h1, h2⟩, h3⟩
      have hk : e.ki ≠ 3 := by rw [h3]; exact c
      rcases h1 with ⟨h4, _⟩ | ⟨_, h4, h5, h6⟩
      · exact absurd h4 hk
      · exact ⟨h2, by rw [h4, h5, h6] at h3; exact h3⟩
    · rintro ⟨h3, h4⟩
      have q1 : e.fy = 0 := by rw [h4]
      have q2 : e.fm = 0 := by rw [h4]
      have q3 : e.fd = 0 := by rw [h4]
      exact ⟨⟨.inr ⟨by rw [h4]; exact c, q1, q2, q3⟩, h3⟩, by rw [q1, q2, q3]; exact h4⟩
    · have hk : e.ki ≠ 3 := by rw [h.2]; exact c
      unfold txFr
      rw [if_neg hk, ByteArray.empty_append]
end
theorem txR_fst (e : Ent) : 1 ≤ (txFr e ++ txOt e).size ∧ (bt (txFr e ++ txOt e) 0 = 32 ∨ bt (txFr e ++ txOt e) 0 = 10) := by
  unfold txFr
  split
  · rw [ByteArray.append_assoc]
    have := fst_app (a := wFm) (b := (itB e.fm ++ (wSp ++ itB e.fd)) ++ txOt e) (by decide)
    exact ⟨this.1, .inl (this.2.trans (by decide))⟩
  · rw [ByteArray.empty_append]; exact txOt_fst e
/-! the levels of a line -/
def tE8 (e : Ent) : ByteArray := wSp ++ (itB e.rk ++ (txFr e ++ txOt e))
def tE7 (e : Ent) : ByteArray := wSp ++ (e.pr ++ tE8 e)
def tE6 (e : Ent) : ByteArray := wSp ++ (txKi e.ki ++ tE7 e)
def tE5 (e : Ent) : ByteArray := wSp ++ (itB e.wk ++ tE6 e)
def tE4 (e : Ent) : ByteArray := wSp ++ (e.se ++ tE5 e)
def tE3 (e : Ent) : ByteArray := wSp ++ (nm e.wd ++ tE4 e)
def tE2 (e : Ent) : ByteArray := wSp ++ (itB e.d ++ tE3 e)
theorem txE_tE (e : Ent) : txE e = wSp ++ (itB e.m ++ tE2 e) := rfl
def o8 (N : Nat) (y m d wd : Int) (se : ByteArray) (wk ki : Int) (pr : ByteArray) (e : Ent) : Prop := inT e.rk = true ∧ okX N y e ∧ e = ⟨y, m, d, wd, se, wk, ki, pr, e.rk, e.fy, e.fm, e.fd, e.co, e.om⟩
theorem rf_8 (N : Nat) (y m d wd : Int) (se : ByteArray) (wk ki : Int) (pr : ByteArray) : Rf anyB (kE8 N y m d wd se wk ki pr) tE8 (o8 N y m d wd se wk ki pr) :=
  rf_WB wds_wSp.ok (rf_B (fun e => e.rk) rf_N (pg := fun e => txFr e ++ txOt e) (okg := fun rk e => okX N y e ∧ e = ⟨y, m, d, wd, se, wk, ki, pr, rk, e.fy, e.fm, e.fd, e.co, e.om⟩) (fun rk _ => rf_Rst N y m d wd se wk ki pr rk) (fun rk e h => by rw [h.2]) (fun _ e _ _ => ⟨(txR_fst e).1, nodg_of (txR_fst e).2⟩) gd_N (fun rk => gk_Rst N y m d wd se wk ki pr rk)) (gd_B gd_N fun rk => gk_Rst N y m d wd se wk ki pr rk)
def o7 (N : Nat) (y m d wd : Int) (se : ByteArray) (wk ki : Int) (e : Ent) : Prop := idn e.pr = true ∧ o8 N y m d wd se wk ki e.pr e
theorem rf_7 (N : Nat) (y m d wd : Int) (se : ByteArray) (wk ki : Int) : Rf anyB (kE7 N y m d wd se wk ki) tE7 (o7 N y m d wd se wk ki) :=
  rf_WB wds_wSp.ok (rf_B (fun e => e.pr) rf_I (pg := tE8) (okg := fun pr e => o8 N y m d wd se wk ki pr e) (fun pr _ => rf_8 N y m d wd se wk ki pr) (fun pr e h => by rw [h.2.2]) (fun _ e _ _ => ⟨(fst_sp _).1, noid_of (.inl (fst_sp _).2)⟩) gd_I (fun pr => gk_E8 N y m d wd se wk ki pr)) (gd_B gd_I fun pr => gk_E8 N y m d wd se wk ki pr)
def o6 (N : Nat) (y m d wd : Int) (se : ByteArray) (wk : Int) (e : Ent) : Prop := (0 ≤ e.ki - 1 ∧ e.ki - 1 < lKi.length) ∧ o7 N y m d wd se wk (1 + (e.ki - 1)) e
theorem txKi_l {i : Int} (h : 0 ≤ i ∧ i < lKi.length) : lKi.getD i.toNat ByteArray.empty = txKi (1 + i) := by
  have e : lKi.length = 3 := rfl
  rw [e] at h
  have : i = 0 ∨ i = 1 ∨ i = 2 := by omega
  rcases this with rfl | rfl | rfl <;> rfl
theorem rf_6 (N : Nat) (y m d wd : Int) (se : ByteArray) (wk : Int) : Rf anyB (kE6 N y m d wd se wk) tE6 (o6 N y m d wd se wk) :=
  (rf_WB wds_wSp.ok (rf_B (fun e => e.ki - 1) (rd_W wds_lKi.ok).f (pg := tE7) (okg := fun i e => o7 N y m d wd se wk (1 + i) e) (fun i _ => rf_7 N y m d wd se wk (1 + i)) (fun i e h => by rw [h.2.2.2]; show (1 + i : Int) - 1 = i; omega) (fun _ e _ _ => ⟨(fst_sp _).1, trivial⟩) (gd_W _) (fun i => gk_E7 N y m d wd se wk (1 + i))) (gd_B (gd_W _) fun i => gk_E7 N y m d wd se wk (1 + i))).to (fun _ => Iff.rfl) (fun e h => by
    show wSp ++ (txKi e.ki ++ tE7 e) = wSp ++ (lKi.getD (e.ki - 1).toNat ByteArray.empty ++ tE7 e)
    rw [txKi_l h.1, show 1 + (e.ki - 1) = e.ki by omega])
def o5 (N : Nat) (y m d wd : Int) (se : ByteArray) (e : Ent) : Prop := inT e.wk = true ∧ o6 N y m d wd se e.wk e
theorem rf_5 (N : Nat) (y m d wd : Int) (se : ByteArray) : Rf anyB (kE5 N y m d wd se) tE5 (o5 N y m d wd se) :=
  rf_WB wds_wSp.ok (rf_B (fun e => e.wk) rf_N (pg := tE6) (okg := fun wk e => o6 N y m d wd se wk e) (fun wk _ => rf_6 N y m d wd se wk) (fun wk e h => by rw [h.2.2.2.2]) (fun _ e _ _ => ⟨(fst_sp _).1, nodg_of (.inl (fst_sp _).2)⟩) gd_N (fun wk => gk_E6 N y m d wd se wk)) (gd_B gd_N fun wk => gk_E6 N y m d wd se wk)
def o4 (N : Nat) (y m d wd : Int) (e : Ent) : Prop := idn e.se = true ∧ o5 N y m d wd e.se e
theorem rf_4 (N : Nat) (y m d wd : Int) : Rf anyB (kE4 N y m d wd) tE4 (o4 N y m d wd) :=
  rf_WB wds_wSp.ok (rf_B (fun e => e.se) rf_I (pg := tE5) (okg := fun se e => o5 N y m d wd se e) (fun se _ => rf_5 N y m d wd se) (fun se e h => by rw [h.2.2.2.2.2]) (fun _ e _ _ => ⟨(fst_sp _).1, noid_of (.inl (fst_sp _).2)⟩) gd_I (fun se => gk_E5 N y m d wd se)) (gd_B gd_I fun se => gk_E5 N y m d wd se)
def o3 (N : Nat) (y m d : Int) (e : Ent) : Prop := (0 ≤ e.wd ∧ e.wd < lWd.length) ∧ o4 N y m d e.wd e
theorem nm_l {w : Int} (h : 0 ≤ w ∧ w < lWd.length) : lWd.getD w.toNat ByteArray.empty = nm w := by
  have e : lWd.length = 7 := rfl
  rw [e] at h
  have : w = 0 ∨ w = 1 ∨ w = 2 ∨ w = 3 ∨ w = 4 ∨ w = 5 ∨ w = 6 := by omega
  rcases this with rfl | rfl | rfl | rfl | rfl | rfl | rfl <;> rfl
theorem rf_3 (N : Nat) (y m d : Int) : Rf anyB (kE3 N y m d) tE3 (o3 N y m d) :=
  (rf_WB wds_wSp.ok (rf_B (fun e => e.wd) (rd_W wds_lWd.ok).f (pg := tE4) (okg := fun wd e => o4 N y m d wd e) (fun wd _ => rf_4 N y m d wd) (fun wd e h => by rw [h.2.2.2.2.2.2]) (fun _ e _ _ => ⟨(fst_sp _).1, trivial⟩) (gd_W _) (fun wd => gk_E4 N y m d wd)) (gd_B (gd_W _) fun wd => gk_E4 N y m d wd)).to (fun _ => Iff.rfl) (fun e h => by
    show wSp ++ (nm e.wd ++ tE4 e) = wSp ++ (lWd.getD e.wd.toNat ByteArray.empty ++ tE4 e)
    rw [nm_l h.1])
def o2 (N : Nat) (y m : Int) (e : Ent) : Prop := inT e.d = true ∧ o3 N y m e.d e
theorem rf_2 (N : Nat) (y m : Int) : Rf anyB (kE2 N y m) tE2 (o2 N y m) :=
  rf_WB wds_wSp.ok (rf_B (fun e => e.d) rf_N (pg := tE3) (okg := fun d e => o3 N y m d e) (fun d _ => rf_3 N y m d) (fun d e h => by rw [h.2.2.2.2.2.2.2]) (fun _ e _ _ => ⟨(fst_sp _).1, nodg_of (.inl (fst_sp _).2)⟩) gd_N (fun d => gk_E3 N y m d)) (gd_B gd_N fun d => gk_E3 N y m d)
def o1 (N : Nat) (y : Int) (e : Ent) : Prop := inT e.m = true ∧ o2 N y e.m e
theorem rf_1 (N : Nat) (y : Int) : Rf anyB (kEnt N y) txE (o1 N y) :=
  rf_WB wds_wSp.ok (rf_B (fun e => e.m) rf_N (pg := tE2) (okg := fun m e => o2 N y m e) (fun m _ => rf_2 N y m) (fun m e h => by rw [h.2.2.2.2.2.2.2.2]) (fun _ e _ _ => ⟨(fst_sp _).1, nodg_of (.inl (fst_sp _).2)⟩) gd_N (fun m => gk_E2 N y m)) (gd_B gd_N fun m => gk_E2 N y m)
/-- .. told by the Boolean. -/
theorem o1_iff (N : Nat) (y : Int) (e : Ent) : o1 N y e ↔ okE y e = true ∧ e.co.length + e.om.length ≤ N := by
  have e3 : (lKi.length : Int) = 3 := rfl
  have e7 : (lWd.length : Int) = 7 := rfl
  constructor
  · rintro ⟨hm, hd, ⟨w1, w2⟩, hse, hwk, ⟨k1, k2⟩, hpr, hrk, ⟨hfr, hn, hco, hom⟩, he⟩
    rw [e3] at k2
    rw [e7] at w2
    have hy : e.y = y := by rw [he]
    refine ⟨?_, hn⟩
    unfold okE
    have a1 : e.co.all idn = true := List.all_eq_true.2 hco
    have a2 : e.om.all idn = true := List.all_eq_true.2 hom
    simp only [hm, hd, hwk, hrk, hse, hpr, a1, a2, Bool.and_self, Bool.and_true, Bool.true_and]
    rw [decide_eq_true hy, decide_eq_true w1, decide_eq_true (show e.wd ≤ 6 by omega), decide_eq_true (show 1 ≤ e.ki by omega), decide_eq_true (show e.ki ≤ 3 by omega)]
    rcases hfr with ⟨f1, f2, f3, f4⟩ | ⟨f1, f2, f3, f4⟩
    · rw [if_pos f1, decide_eq_true f2, f3, f4]; rfl
    · rw [if_neg f1, decide_eq_true f2, decide_eq_true f3, decide_eq_true f4]; rfl
  · rintro ⟨h, hn⟩
    unfold okE at h
    simp only [Bool.and_eq_true, decide_eq_true_eq] at h
    obtain ⟨⟨hy, hm, hd, hwk, hrk, w1, w2, k1, k2⟩, hf, hse, hpr, hco, hom⟩ := h
    refine ⟨hm, hd, ⟨w1, by rw [e7]; omega⟩, hse, hwk, ⟨by omega, by rw [e3]; omega⟩, hpr, hrk, ⟨?_, hn, List.all_eq_true.1 hco, List.all_eq_true.1 hom⟩, ?_⟩
    · by_cases c : e.ki = 3
      · rw [if_pos c] at hf
        simp only [Bool.and_eq_true, decide_eq_true_eq] at hf
        exact .inl ⟨c, hf⟩
      · rw [if_neg c] at hf
        simp only [Bool.and_eq_true, decide_eq_true_eq] at hf
        exact .inr ⟨c, hf⟩
    · obtain ⟨y', m, d, wd, se, wk, ki, pr, rk, fy, fm, fd, co, om⟩ := e
      obtain rfl : y' = y := hy
      show _ = (⟨y', m, d, wd, se, wk, 1 + (ki - 1), pr, rk, fy, fm, fd, co, om⟩ : Ent)
      rw [show 1 + (ki - 1) = ki by omega]
/-! the lines -/
theorem day_fst (x : ByteArray) : 1 ≤ (wDay ++ x).size := by rw [ByteArray.size_append]; have : wDay.size = 3 := rfl; omega
theorem days_so (N : Nat) (y : Int) : ∀ (n : Nat) (l : List Ent) (S : ByteArray) (x : Sc), x.k ≤ S.size → (kDays N y n l S x).2.b = false →
    ∃ l', (kDays N y n l S x).1 = l ++ l' ∧ (∀ e ∈ l', okE y e = true) ∧ LiesAt S x.k (txEs l' ++ wEnd) ∧ (kDays N y n l S x).2.k = x.k + (txEs l' ++ wEnd).size
  | 0, l, S, x, hx, hb => by
    obtain ⟨a1, a2, a3⟩ := (rd_WB wds_wEnd.ok (rd_R l) (gd_R _)).so S x hx hb
    rw [ByteArray.append_empty] at a2 a3
    exact ⟨[], by rw [List.append_nil]; exact a1, by simp, by show LiesAt S x.k (ByteArray.empty ++ wEnd); rw [ByteArray.empty_append]; exact a2, by show _ = x.k + (ByteArray.empty ++ wEnd).size; rw [ByteArray.empty_append]; exact a3⟩
  | n + 1, l, S, x, hx, hb => by
    have G : ∀ i : Int, Gk (if i = 0 then yB (kEnt N y) fun e => kDays N y n (l ++ [e]) else yR l) := fun i => gd_if (gd_B (gk_Ent N y) fun _ => gk_Days N y n _) (gd_R _)
    have eK : kDays N y (n + 1) l S x = (if (yW lDE S x).1 = 0 then yB (kEnt N y) fun e => kDays N y n (l ++ [e]) else yR l) S (yW lDE S x).2 := rfl
    rw [eK] at hb ⊢
    have hW := (G _).ok hb
    obtain ⟨a1, a2, a3⟩ := (rd_W wds_lDE.ok).so S x hx hW
    have hk1 := ((gd_W lDE).le S x hx).2
    generalize yW lDE S x = q at *
    obtain ⟨i, q⟩ := q
    simp only at hb hW a1 a2 a3 hk1 ⊢
    by_cases c : i = 0
    · subst c
      rw [if_pos rfl] at hb ⊢
      have ew : lDE.getD (0 : Int).toNat ByteArray.empty = wDay := rfl
      rw [ew] at a2 a3
      have hE : (kEnt N y S q).2.b = false := (gk_Days N y n _).ok hb
      obtain ⟨b1, b2, b3⟩ := (rf_1 N y).so S q hk1 hE
      obtain ⟨l', c1, c2, c3, c4⟩ := days_so N y n (l ++ [(kEnt N y S q).1]) S (kEnt N y S q).2 ((gk_Ent N y).le S q hk1).2 hb
      refine ⟨(kEnt N y S q).1 :: l', ?_, ?_, ?_, ?_⟩
      · show (kDays N y n (l ++ [(kEnt N y S q).1]) S (kEnt N y S q).2).1 = _
        rw [c1, List.append_assoc]; rfl
      · intro e he
        rcases List.mem_cons.1 he with rfl | he
        · exact ((o1_iff N y _).1 b1).1
        · exact c2 e he
      · show LiesAt S x.k (((wDay ++ txE (kEnt N y S q).1) ++ txEs l') ++ wEnd)
        rw [ByteArray.append_assoc, ByteArray.append_assoc]
        refine lies_join a2 (lies_join (by rw [← a3]; exact b2) ?_)
        rw [← a3, ← b3]; exact c3
      · show (kDays N y n (l ++ [(kEnt N y S q).1]) S (kEnt N y S q).2).2.k = x.k + (((wDay ++ txE (kEnt N y S q).1) ++ txEs l') ++ wEnd).size
        rw [c4, b3, a3, ByteArray.append_assoc, ByteArray.append_assoc, ByteArray.size_append (a := wDay), ByteArray.size_append (a := txE (kEnt N y S q).1)]; omega
    · rw [if_neg c] at hb ⊢
      have e2 : (lDE.length : Int) = 2 := rfl
      obtain rfl : i = 1 := by omega
      have ew : lDE.getD (1 : Int).toNat ByteArray.empty = wEnd := rfl
      rw [ew] at a2 a3
      exact ⟨[], by rw [List.append_nil]; rfl, by simp, by show LiesAt S x.k (ByteArray.empty ++ wEnd); rw [ByteArray.empty_append]; exact a2, by show q.k = x.k + (ByteArray.empty ++ wEnd).size; rw [ByteArray.empty_append]; exact a3⟩
theorem days_co (N : Nat) (y : Int) : ∀ (l' : List Ent) (n : Nat) (l : List Ent) (S : ByteArray) (k : Nat), k ≤ S.size → l'.length ≤ n → (∀ e ∈ l', okE y e = true ∧ e.co.length + e.om.length ≤ N) → LiesAt S k (txEs l' ++ wEnd) →
    kDays N y n l S ⟨k, false⟩ = (l ++ l', ⟨k + (txEs l' ++ wEnd).size, false⟩)
  | [], 0, l, S, k, hk, _, _, hl => by
    have e : txEs [] ++ wEnd = wEnd := ByteArray.empty_append
    rw [e] at hl ⊢
    have := (rd_W1 wds_wEnd.ok).co S k 0 hk rfl hl
    show yR l S (yW [wEnd] S ⟨k, false⟩).2 = _
    rw [this, List.append_nil]; rfl
  | [], n + 1, l, S, k, hk, _, _, hl => by
    have e : txEs [] ++ wEnd = wEnd := ByteArray.empty_append
    rw [e] at hl ⊢
    have := (rd_W wds_lDE.ok).co S k 1 hk ⟨by omega, by decide⟩ hl
    show (if (yW lDE S ⟨k, false⟩).1 = 0 then yB (kEnt N y) fun e => kDays N y n (l ++ [e]) else yR l) S (yW lDE S ⟨k, false⟩).2 = _
    rw [this, List.append_nil]; rfl
  | _ :: _, 0, _, _, _, _, hn, _, _ => by simp at hn
  | e :: l', n + 1, l, S, k, hk, hn, ho, hl => by
    have ee : txEs (e :: l') ++ wEnd = wDay ++ (txE e ++ (txEs l' ++ wEnd)) := by
      show ((wDay ++ txE e) ++ txEs l') ++ wEnd = _
      rw [ByteArray.append_assoc, ByteArray.append_assoc]
    rw [ee] at hl ⊢
    obtain ⟨l1, l2⟩ := lies_app hl
    obtain ⟨l3, l4⟩ := lies_app l2
    have h1 := (rd_W wds_lDE.ok).co S k 0 hk ⟨by omega, by decide⟩ l1
    have h2 := (rf_1 N y).co S (k + wDay.size) e (l1.len hk) ((o1_iff N y e).2 (ho e (by simp))) l3 trivial
    have h3 := days_co N y l' n (l ++ [e]) S (k + wDay.size + (txE e).size) (l3.len (l1.len hk)) (by simpa using hn) (fun u hu => ho u (by simp [hu])) l4
    have ew : lDE.getD (0 : Int).toNat ByteArray.empty = wDay := rfl
    rw [ew] at h1
    show (if (yW lDE S ⟨k, false⟩).1 = 0 then yB (kEnt N y) fun e => kDays N y n (l ++ [e]) else yR l) S (yW lDE S ⟨k, false⟩).2 = _
    rw [h1]
    show kDays N y n (l ++ [(kEnt N y S ⟨k + wDay.size, false⟩).1]) S (kEnt N y S ⟨k + wDay.size, false⟩).2 = _
    rw [h2]
    show kDays N y n (l ++ [e]) S ⟨k + wDay.size + (txE e).size, false⟩ = _
    rw [h3, List.append_assoc, ByteArray.size_append (a := wDay), ByteArray.size_append (a := txE e), Nat.add_assoc, Nat.add_assoc]; rfl
/-- What is accepted is a printable calendar's text. -/
theorem kbody_so {S : ByteArray} {N : Nat} (hb : (kEnd N S).b = false) : okK (kBody N S ⟨0, false⟩).1 = true ∧ S = txK (kBody N S ⟨0, false⟩).1 := by
  have hb0 : (kBody N S ⟨0, false⟩).2.b = false := by
    cases q : (kBody N S ⟨0, false⟩).2.b
    · rfl
    · have : feB (kBody N S ⟨0, false⟩).2.b S (kBody N S ⟨0, false⟩).2.k = false := hb
      rw [q] at this; cases this
  have hend : ¬ (kBody N S ⟨0, false⟩).2.k < S.size := by
    have : feB (kBody N S ⟨0, false⟩).2.b S (kBody N S ⟨0, false⟩).2.k = false := hb
    rw [hb0] at this
    unfold feB at this
    simpa using this
  have G3 : ∀ y : Int, Gk (yB (kDays N y N []) fun es => yR (⟨y, es⟩ : Kal)) := fun y => gd_B (gk_Days N _ _ _) fun _ => gd_R _
  have G2 : ∀ y : Int, Gk (yB (yW [wLf]) fun _ => yB (kDays N y N []) fun es => yR (⟨y, es⟩ : Kal)) := fun y => gd_B (gd_W _) fun _ => G3 y
  have G1 : Gk (yB yNu fun y => yB (yW [wLf]) fun _ => yB (kDays N y N []) fun es => yR (⟨y, es⟩ : Kal)) := gd_B gd_N G2
  generalize hx1 : (yW [wCl] S ⟨0, false⟩).2 = x1
  have hq1 : (kBody N S ⟨0, false⟩) = (yB yNu fun y => yB (yW [wLf]) fun _ => yB (kDays N y N []) fun es => yR (⟨y, es⟩ : Kal)) S x1 := by rw [← hx1]; rfl
  have b1 : x1.b = false := G1.ok (by rw [← hq1]; exact hb0)
  obtain ⟨_, l1, k1⟩ := (rd_W1 wds_wCl.ok).so S ⟨0, false⟩ (Nat.zero_le _) (by rw [hx1]; exact b1)
  rw [hx1] at k1
  have m1 : x1.k ≤ S.size := by rw [← hx1]; exact ((gd_W _).le S ⟨0, false⟩ (Nat.zero_le _)).2
  generalize hx2 : yNu S x1 = z2 at *
  obtain ⟨y, x2⟩ := z2
  have hq2 : (kBody N S ⟨0, false⟩) = (yB (yW [wLf]) fun _ => yB (kDays N y N []) fun es => yR (⟨y, es⟩ : Kal)) S x2 := by
    rw [hq1]
    show (yB (yW [wLf]) fun _ => yB (kDays N (yNu S x1).1 N []) fun es => yR (⟨(yNu S x1).1, es⟩ : Kal)) S (yNu S x1).2 = _
    rw [hx2]
  have b2 : x2.b = false := (G2 y).ok (by rw [← hq2]; exact hb0)
  obtain ⟨o2, l2, k2⟩ := rf_N.so S x1 m1 (by rw [hx2]; exact b2)
  rw [hx2] at o2 l2 k2
  have m2 : x2.k ≤ S.size := by have := (gd_N.le S x1 m1).2; rw [hx2] at this; exact this
  generalize hx3 : (yW [wLf] S x2).2 = x3
  have hq3 : (kBody N S ⟨0, false⟩) = (⟨y, (kDays N y N [] S x3).1⟩, (kDays N y N [] S x3).2) := by rw [hq2, ← hx3]; rfl
  have b4 : (kDays N y N [] S x3).2.b = false := by rw [hq3] at hb0; exact hb0
  have b3 : x3.b = false := (gk_Days N y N []).ok b4
  obtain ⟨_, l3, k3⟩ := (rd_W1 wds_wLf.ok).so S x2 m2 (by rw [hx3]; exact b3)
  rw [hx3] at k3
  have m3 : x3.k ≤ S.size := by rw [← hx3]; exact ((gd_W _).le S x2 m2).2
  obtain ⟨es, e1, e2, e3, e4⟩ := days_so N y N [] S x3 m3 b4
  rw [List.nil_append] at e1
  have eB : (kBody N S ⟨0, false⟩).1 = ⟨y, es⟩ := by rw [hq3, e1]
  have eK : (kBody N S ⟨0, false⟩).2.k = x3.k + (txEs es ++ wEnd).size := by rw [hq3]; exact e4
  have m4 := ((gk_Body N).le S ⟨0, false⟩ (Nat.zero_le _)).2
  rw [eB]
  have hl : LiesAt S 0 (txK ⟨y, es⟩) := by
    show LiesAt S 0 (wCl ++ (itB y ++ (wLf ++ (txEs es ++ wEnd))))
    have k1 : x1.k = 0 + wCl.size := k1
    have k2 : x2.k = x1.k + (itB y).size := k2
    exact lies_join l1 (lies_join (by rw [← k1]; exact l2) (lies_join (by rw [← k1, ← k2]; exact l3) (by rw [← k1, ← k2, ← k3]; exact e3)))
  have hsz : (txK ⟨y, es⟩).size = S.size := by
    show (wCl ++ (itB y ++ (wLf ++ (txEs es ++ wEnd)))).size = S.size
    have k1 : x1.k = 0 + wCl.size := k1
    have k2 : x2.k = x1.k + (itB y).size := k2
    rw [ByteArray.size_append (a := wCl), ByteArray.size_append (a := itB y), ByteArray.size_append (a := wLf)]
    omega
  refine ⟨?_, bt_inj hsz.symm fun j hj => ?_⟩
  · unfold okK
    rw [Bool.and_eq_true]
    exact ⟨o2, List.all_eq_true.2 e2⟩
  · have := (hl j (by omega)).2
    rw [Nat.zero_add] at this
    exact this
/-- A calendar's text is read to the calendar. -/
theorem kbody_co {S : ByteArray} {N : Nat} {k : Kal} (hl : LiesAt S 0 (txK k)) (ho : okK k = true) (n1 : k.es.length ≤ N) (n2 : ∀ e ∈ k.es, e.co.length + e.om.length ≤ N) : kBody N S ⟨0, false⟩ = (k, ⟨(txK k).size, false⟩) := by
  obtain ⟨y, es⟩ := k
  unfold okK at ho
  rw [Bool.and_eq_true] at ho
  obtain ⟨oy, oe⟩ := ho
  have hl' : LiesAt S 0 (wCl ++ (itB y ++ (wLf ++ (txEs es ++ wEnd)))) := hl
  obtain ⟨l1, r1⟩ := lies_app hl'
  obtain ⟨l2, r2⟩ := lies_app r1
  obtain ⟨l3, r3⟩ := lies_app r2
  have k1 := l1.len (Nat.zero_le _)
  have k2 := l2.len k1
  have k3 := l3.len k2
  have e1 := (rd_W1 wds_wCl.ok).co S 0 0 (Nat.zero_le _) rfl l1
  have e2 := rf_N.co S _ y k1 oy l2 (by rw [nxb_lies r2 (by rw [ByteArray.size_append]; have : wLf.size = 1 := rfl; omega), (fst_app (a := wLf) (b := txEs es ++ wEnd) (by decide)).2]; exact nodg_of (.inr (by decide)))
  have e3 := (rd_W1 wds_wLf.ok).co S _ 0 k2 rfl l3
  have e4 := days_co N y es N [] S _ k3 n1 (fun e he => ⟨List.all_eq_true.1 oe e he, n2 e he⟩) r3
  have eP : kBody N S ⟨0, false⟩ = yB (yW [wCl]) (fun _ => yB yNu fun y => yB (yW [wLf]) fun _ => yB (kDays N y N []) fun es => yR (⟨y, es⟩ : Kal)) S ⟨0, false⟩ := rfl
  rw [eP]
  unfold yB yR
  simp only [e1, e2, e3, e4, List.nil_append]
  show (_, (⟨_, false⟩ : Sc)) = (_, ⟨(wCl ++ (itB y ++ (wLf ++ (txEs es ++ wEnd)))).size, false⟩)
  simp only [ByteArray.size_append, Nat.zero_add, Nat.add_assoc]
end Go.Proofs.YtkhicgafhbecfaaGreatDoor
