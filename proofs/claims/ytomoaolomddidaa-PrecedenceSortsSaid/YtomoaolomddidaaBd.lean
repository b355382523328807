/- Go's stable sort: the merge in place (symMerge), the blocks (stable), Stable. -/
import Derived.Test.YtomoaolomddidaaBc
namespace Go.Proofs.Ytomoaolomddidaa
open Go.RowKit
section
variable {n : Nat} {lt : Nat → Nat → Bool} {T : TypeId} {v : Value} {fL fS : FuncId} {St : (Nat → Nat) → World → Prop}
set_option maxRecDepth 100000 in
set_option maxHeartbeats 1000000 in
theorem sort_sym1 (I : SI n lt T v fL fS St) (s : Nat → Nat) (a m b : Nat) (W : World) (h1 : m = a + 1) (h2 : m < b) (h3 : b ≤ n) (hs : St s W) (g : Gd n s) (R : Srt lt s m b) (lo : Low s a m b) :
    Calls Try.prog 19 #[.iface T v, .int .i64 a, .int .i64 m, .int .i64 b] W fun e w' => e = .returned (.tuple #[]) ∧ ∃ t, St t w' ∧ Gd n t ∧ Sb s t a b ∧ Srt lt t a b := by
  have hn := I.bd
  have mL := I.mL
  have mS := I.mS
  have eL := I.eL
  have eS := I.eS
  have HL := Lib.hid I.L
  have HS := Lib.hid I.S
  have SW := Lib.hid I.sw
  have Hs := Lib.hid hs
  have Hg := Lib.hid g
  have HR := Lib.hid R
  have HW := Lib.hid lo
  have d1 : ((m : Int) - (a : Int) == 1) = true := beq_iff_eq.2 (by omega)
  have ha1 : a + 1 ≤ m := by omega
  have ha2 : m ≤ a + 1 := by omega
  replace h1 := Lib.hid h1
  clear hs g I R lo
  go_enter Try.func19, Try.ntmps19
  go_wp2_with fail
  clear d1
  go_loopw [8, 9] (fun iv jv wr => ∃ (i j : Nat), iv = .int .i64 i ∧ jv = .int .i64 j ∧ m ≤ i ∧ i ≤ j ∧ j ≤ b ∧ Hid (i = m ∨ Pr lt (s (i - 1)) (s a)) ∧ Hid (j = b ∨ Pr lt (s a) (s j)) ∧ St s wr) (fun iv jv _ => (intOf jv).toNat - (intOf iv).toNat)
  case atStart => exact ⟨m, b, rfl, rfl, Nat.le_refl _, by omega, Nat.le_refl _, Lib.hid (.inl rfl), Lib.hid (.inl rfl), Hs.out⟩
  case round =>
    obtain ⟨i, j, rfl, rfl, mi, ij, jb, A, B, h⟩ := hrel
    have H := Lib.hid h
    clear h
    by_cases hlt : i < j
    · have Q := Lib.hid (HW.out a ((i + j) / 2) (Nat.le_refl _) (by omega) (by omega) (by omega))
      have HL1 := Lib.hid (fun u hu => HL.out s ((i + j) / 2) (a) u (by omega) (by omega) hu)
      rw [show ((((i + j) / 2) : Nat) : Int) = ((i : Int) + j) / 2 by omega] at HL1
      go_wp2_with fail
      refine (HL1.out _ H.out).mono ?_
      rintro e w1 ⟨rfl, h1⟩
      have H1 := Lib.hid h1
      clear h1
      cases hl : lt (s ((i + j) / 2)) (s a)
      · go_wp2_with fail
        go_roundw
        case rel => exact ⟨i, (i + j) / 2, rfl, vi (by omega), mi, by omega, by omega, A, Lib.hid (.inr (.up Q.out hl)), H1.out⟩
        case measure => simp [intOf]; omega
      · go_wp2_with fail
        go_roundw
        case rel => exact ⟨(i + j) / 2 + 1, j, vi (by omega), rfl, by omega, by omega, by omega, Lib.hid (.inr (by rw [show (i + j) / 2 + 1 - 1 = (i + j) / 2 by omega]; exact .dn hl)), B, H1.out⟩
        case measure => simp [intOf]; omega
    · obtain rfl : i = j := by omega
      go_wp2_with fail
      go_loopw [11] (fun kv wr => ∃ k : Nat, kv = .int .i64 k ∧ a ≤ k ∧ k ≤ i - 1 ∧ St (mvu s a k) wr ∧ Gd n (mvu s a k)) (fun kv _ => i - (intOf kv).toNat)
      case atStart => exact ⟨a, rfl, Nat.le_refl _, by omega, by rw [mvu_start]; exact H.out, by rw [mvu_start]; exact Hg.out⟩
      case round =>
        obtain ⟨k, rfl, ak, ki, h, g⟩ := hrel
        have H' := Lib.hid h
        have G' := Lib.hid g
        clear h g
        by_cases hk : k < i - 1
        · have HS1 := Lib.hid (fun u hu => HS.out (mvu s a k) k (k + 1) u (by omega) (by omega) hu)
          have X := Lib.hid (mvu_step s (a := a) (t := k) ak)
          have Y := Lib.hid (G'.out.swp (i := k) (j := k + 1) (by omega) (by omega))
          rw [show ((k + 1 : Nat) : Int) = (k : Int) + 1 by omega] at HS1
          go_wp2_with fail
          refine (HS1.out _ H'.out).mono ?_
          rintro e w1 ⟨rfl, h1⟩
          have H1 := Lib.hid h1
          clear h1
          go_wp2_with fail
          go_roundw
          case rel => exact ⟨k + 1, by go_num, by omega, by omega, by rw [← X.out]; exact H1.out, by rw [← X.out]; exact Y.out⟩
          case measure => simp [intOf]; omega
        · obtain rfl : k = i - 1 := by omega
          have Z1 := Lib.hid (mvu_sb s (a := a) (b := b) (t := i - 1) (by omega) (by omega))
          have Z2 : Hid (Srt lt (mvu s a (i - 1)) a b) := Lib.hid (by have h1 := h1.out; subst h1; exact mvu_srt SW.out HR.out mi jb A.out B.out)
          go_wp2_with fail
          exact bodyPost_ret (v := .tuple #[]) (by simp [results, Try.results19, go_sem]) rfl ⟨rfl, _, H'.out, G'.out, Z1.out, Z2.out⟩
set_option maxRecDepth 100000 in
set_option maxHeartbeats 1000000 in
theorem sort_sym2 (I : SI n lt T v fL fS St) (s : Nat → Nat) (a m b : Nat) (W : World) (h0 : a + 1 < m) (h1 : b = m + 1) (h3 : b ≤ n) (hs : St s W) (g : Gd n s) (L : Srt lt s a m) (lo : Low s a m b) :
    Calls Try.prog 19 #[.iface T v, .int .i64 a, .int .i64 m, .int .i64 b] W fun e w' => e = .returned (.tuple #[]) ∧ ∃ t, St t w' ∧ Gd n t ∧ Sb s t a b ∧ Srt lt t a b := by
  have hn := I.bd
  have mL := I.mL
  have mS := I.mS
  have eL := I.eL
  have eS := I.eS
  have HL := Lib.hid I.L
  have HS := Lib.hid I.S
  have SW := Lib.hid I.sw
  have Hs := Lib.hid hs
  have Hg := Lib.hid g
  have HR := Lib.hid L
  have HW := Lib.hid lo
  have d1 : ((m : Int) - (a : Int) == 1) = false := by rw [beq_eq_false_iff_ne]; omega
  have d2 : ((b : Int) - (m : Int) == 1) = true := beq_iff_eq.2 (by omega)
  have ha1 : m + 1 ≤ b := by omega
  have ha2 : b ≤ m + 1 := by omega
  replace h1 := Lib.hid h1
  clear hs g I L lo
  go_enter Try.func19, Try.ntmps19
  go_wp2_with fail
  clear d1 d2
  go_loopw [12, 13] (fun iv jv wr => ∃ (i j : Nat), iv = .int .i64 i ∧ jv = .int .i64 j ∧ a ≤ i ∧ i ≤ j ∧ j ≤ m ∧ Hid (i = a ∨ Pr lt (s (i - 1)) (s m)) ∧ Hid (j = m ∨ Pr lt (s m) (s j)) ∧ St s wr) (fun iv jv _ => (intOf jv).toNat - (intOf iv).toNat)
  case atStart => exact ⟨a, m, rfl, rfl, Nat.le_refl _, by omega, Nat.le_refl _, Lib.hid (.inl rfl), Lib.hid (.inl rfl), Hs.out⟩
  case round =>
    obtain ⟨i, j, rfl, rfl, ai, ij, jm, A, B, h⟩ := hrel
    have H := Lib.hid h
    clear h
    by_cases hlt : i < j
    · have Q := Lib.hid (HW.out ((i + j) / 2) m (by omega) (by omega) (Nat.le_refl _) (by omega))
      have HL1 := Lib.hid (fun u hu => HL.out s (m) ((i + j) / 2) u (by omega) (by omega) hu)
      rw [show ((((i + j) / 2) : Nat) : Int) = ((i : Int) + j) / 2 by omega] at HL1
      go_wp2_with fail
      refine (HL1.out _ H.out).mono ?_
      rintro e w1 ⟨rfl, h1⟩
      have H1 := Lib.hid h1
      clear h1
      cases hl : lt (s m) (s ((i + j) / 2))
      · go_wp2_with fail
        go_roundw
        case rel => exact ⟨(i + j) / 2 + 1, j, vi (by omega), rfl, by omega, by omega, by omega, Lib.hid (.inr (by rw [show (i + j) / 2 + 1 - 1 = (i + j) / 2 by omega]; exact .up Q.out hl)), B, H1.out⟩
        case measure => simp [intOf]; omega
      · go_wp2_with fail
        go_roundw
        case rel => exact ⟨i, (i + j) / 2, rfl, vi (by omega), ai, by omega, by omega, A, Lib.hid (.inr (.dn hl)), H1.out⟩
        case measure => simp [intOf]; omega
    · obtain rfl : i = j := by omega
      go_wp2_with fail
      go_loopw [15] (fun kv wr => ∃ k : Nat, kv = .int .i64 k ∧ i ≤ k ∧ k ≤ m ∧ St (mvd s m k) wr ∧ Gd n (mvd s m k)) (fun kv _ => (intOf kv).toNat)
      case atStart => exact ⟨m, rfl, jm, Nat.le_refl _, by rw [mvd_start]; exact H.out, by rw [mvd_start]; exact Hg.out⟩
      case round =>
        obtain ⟨k, rfl, ik, km, h, g⟩ := hrel
        have H' := Lib.hid h
        have G' := Lib.hid g
        clear h g
        by_cases hk : i < k
        · have HS1 := Lib.hid (fun u hu => HS.out (mvd s m k) k (k - 1) u (by omega) (by omega) hu)
          have X := Lib.hid (mvd_step s (m := m) (t := k) (by omega) km)
          have Y := Lib.hid (G'.out.swp (i := k) (j := k - 1) (by omega) (by omega))
          rw [show ((k - 1 : Nat) : Int) = (k : Int) - 1 by omega] at HS1
          go_wp2_with fail
          refine (HS1.out _ H'.out).mono ?_
          rintro e w1 ⟨rfl, h1⟩
          have H1 := Lib.hid h1
          clear h1
          go_wp2_with fail
          go_roundw
          case rel => exact ⟨k - 1, vi (by omega), by omega, by omega, by rw [← X.out]; exact H1.out, by rw [← X.out]; exact Y.out⟩
          case measure => simp [intOf]; omega
        · obtain rfl : k = i := by omega
          have Z1 := Lib.hid (mvd_sb s (a := a) (b := b) (m := m) (t := k) ai km (by omega))
          have Z2 : Hid (Srt lt (mvd s m k) a b) := Lib.hid (by have h1 := h1.out; subst h1; exact mvd_srt SW.out HR.out ai jm A.out B.out)
          go_wp2_with fail
          exact bodyPost_ret (v := .tuple #[]) (by simp [results, Try.results19, go_sem]) rfl ⟨rfl, _, H'.out, G'.out, Z1.out, Z2.out⟩
set_option maxRecDepth 100000 in
set_option maxHeartbeats 4000000 in
theorem sort_sym3 (I : SI n lt T v fL fS St) (s : Nat → Nat) (a m b mid : Nat) (W : World) (q1 : 2 * mid ≤ a + b) (q2 : a + b ≤ 2 * mid + 1) (h0 : a + 1 < m) (h1 : m + 1 < b) (h3 : b ≤ n) (hm : mid < m) (hs : St s W) (g : Gd n s) (L : Srt lt s a m) (R : Srt lt s m b) (lo : Low s a m b)
    (HM : ∀ (s : Nat → Nat) (a' m b' : Nat) (W : World), b' - a' < b - a → a' < m → m < b' → b' ≤ n → St s W → Gd n s → Srt lt s a' m → Srt lt s m b' → Low s a' m b' → Calls Try.prog 19 #[.iface T v, .int .i64 a', .int .i64 m, .int .i64 b'] W fun e w' => e = .returned (.tuple #[]) ∧ ∃ t, St t w' ∧ Gd n t ∧ Sb s t a' b' ∧ Srt lt t a' b') :
    Calls Try.prog 19 #[.iface T v, .int .i64 a, .int .i64 m, .int .i64 b] W fun e w' => e = .returned (.tuple #[]) ∧ ∃ t, St t w' ∧ Gd n t ∧ Sb s t a b ∧ Srt lt t a b := by
  have hn := I.bd
  have mL := I.mL
  have mS := I.mS
  have eL := I.eL
  have eS := I.eS
  have HL := Lib.hid I.L
  have HS := Lib.hid I.S
  have SW := Lib.hid I.sw
  have Hs := Lib.hid hs
  have Hg := Lib.hid g
  have HRo := Lib.hid (fun s a m b u h1 h2 h3 hs g => sort_rot I s a m b u h1 h2 h3 hs g)
  have HL' := Lib.hid L
  have HR' := Lib.hid R
  have HW := Lib.hid lo
  have HM' := Lib.hid HM
  have em := Lib.hid (show (mid : Int) = ((a : Int) + b) / 2 by omega)
  have d1 : ((m : Int) - (a : Int) == 1) = false := by rw [beq_eq_false_iff_ne]; omega
  have d2 : ((b : Int) - (m : Int) == 1) = false := by rw [beq_eq_false_iff_ne]; omega
  have d3 : ((a : Int) + b) / 2 < (m : Int) := by omega
  clear hs g I L R lo HM
  go_enter Try.func19, Try.ntmps19
  go_wp2_with fail
  clear d1 d2 d3
  go_loopw [18, 19] (fun cv rv wr => ∃ (c r : Nat), cv = .int .i64 c ∧ rv = .int .i64 r ∧ a ≤ c ∧ c ≤ r ∧ r ≤ m ∧ r ≤ mid ∧ mid + m ≤ c + b ∧ Hid (c = a ∨ c + b = mid + m ∨ Pr lt (s (c - 1)) (s (mid + m - c))) ∧ Hid (r = m ∨ r = mid ∨ Pr lt (s (mid + m - 1 - r)) (s r)) ∧ St s wr) (fun cv rv _ => (intOf rv).toNat - (intOf cv).toNat)
  case atStart => exact ⟨mid + m - b, mid, vi (by omega), vi (by omega), by omega, by omega, by omega, by omega, by omega, Lib.hid (.inr (.inl (by omega))), Lib.hid (.inr (.inl rfl)), Hs.out⟩
  case round =>
    obtain ⟨c, r, rfl, rfl, ac, cr, rm, rmid, cb, A, B, h⟩ := hrel
    have H := Lib.hid h
    clear h
    by_cases hlt : c < r
    · have Q := Lib.hid (HW.out ((c + r) / 2) (mid + m - 1 - (c + r) / 2) (by omega) (by omega) (by omega) (by omega))
      have HL1 := Lib.hid (fun u hu => HL.out s (mid + m - 1 - (c + r) / 2) ((c + r) / 2) u (by omega) (by omega) hu)
      rw [show (((mid + m - 1 - (c + r) / 2) : Nat) : Int) = ((a : Int) + b) / 2 + m - 1 - ((c : Int) + r) / 2 by omega] at HL1
      rw [show ((((c + r) / 2) : Nat) : Int) = ((c : Int) + r) / 2 by omega] at HL1
      go_wp2_with fail
      refine (HL1.out _ H.out).mono ?_
      rintro e w1 ⟨rfl, h1⟩
      have H1 := Lib.hid h1
      clear h1
      cases hl : lt (s (mid + m - 1 - (c + r) / 2)) (s ((c + r) / 2))
      · go_wp2_with fail
        go_roundw
        case rel => exact ⟨(c + r) / 2 + 1, r, vi (by omega), rfl, by omega, by omega, by omega, by omega, by omega, Lib.hid (.inr (.inr (by rw [show (c + r) / 2 + 1 - 1 = (c + r) / 2 by omega, show mid + m - ((c + r) / 2 + 1) = mid + m - 1 - (c + r) / 2 by omega]; exact .up Q.out hl))), B, H1.out⟩
        case measure => simp [intOf]; omega
      · go_wp2_with fail
        go_roundw
        case rel => exact ⟨c, (c + r) / 2, rfl, vi (by omega), by omega, by omega, by omega, by omega, by omega, A, Lib.hid (.inr (.inr (.dn hl))), H1.out⟩
        case measure => simp [intOf]; omega
    · obtain rfl : c = r := by omega
      obtain ⟨e, he⟩ : ∃ e, e = mid + m - c := ⟨_, rfl⟩
      have ee := Lib.hid (show (e : Int) = ((a : Int) + b) / 2 + m - c by omega)
      have e1 : e + c ≤ mid + m := by omega
      have e2 : mid + m ≤ e + c := by omega
      have K : Cut a c m e b mid := ⟨by omega, by omega, by omega, by omega, by omega⟩
      have A' : Hid (c = a ∨ e = b ∨ Pr lt (s (c - 1)) (s e)) := Lib.hid (by
        rcases A.out with A | A | A
        · exact .inl A
        · exact .inr (.inl (by omega))
        · rw [← he] at A; exact .inr (.inr A))
      have B' : Hid (e = m ∨ c = m ∨ Pr lt (s (e - 1)) (s c)) := Lib.hid (by
        rcases B.out with B | B | B
        · exact .inr (.inl B)
        · exact .inl (by omega)
        · rw [show mid + m - 1 - c = e - 1 by omega] at B; exact .inr (.inr B))
      have X := Lib.hid (fun x y x1 x2 y1 y2 => rot_cross K SW.out HL'.out HR'.out A'.out B'.out (x := x) (y := y) x1 x2 y1 y2)
      have S1 := Lib.hid (rot_s1 K HL'.out)
      have S2 := Lib.hid (rot_s2 K HR'.out)
      have S3 := Lib.hid (rot_s3 K HL'.out)
      have S4 := Lib.hid (rot_s4 K HR'.out)
      have W1 := Lib.hid (rot_w1 K HW.out)
      have W2 := Lib.hid (rot_w2 K HW.out)
      have RB := Lib.hid ((rot_sb s (a := c) (m := m) (b := e) (by omega) (by omega)).mono (a' := a) (b' := b) (by omega) (by omega))
      clear A B A' B' HL' HR' HW he
      by_cases hr : c < m ∧ m < e
      · obtain ⟨r1, r2⟩ := hr
        have r2' : (m : Int) < ((a : Int) + b) / 2 + m - c := by omega
        have HR1 := Lib.hid (fun u hu => HRo.out s c m e u r1 r2 (by omega) hu Hg.out)
        rw [ee.out] at HR1
        go_wp2_with fail
        refine (HR1.out _ H.out).mono ?_
        rintro e' w1 ⟨rfl, h2', g2⟩
        have H2 := Lib.hid h2'
        have G2 := Lib.hid g2
        clear h2' g2 H
        by_cases hy : a < c ∧ c < mid
        · obtain ⟨y1, y2⟩ := hy
          have y2' : (c : Int) < ((a : Int) + b) / 2 := by omega
          have HM1 := Lib.hid (fun u hu => HM'.out (rot s c m e) a c mid u (by omega) y1 y2 (by omega) hu G2.out S1.out S2.out W1.out)
          rw [em.out] at HM1
          go_wp2_with fail
          refine (HM1.out _ H2.out).mono ?_
          rintro e' w2 ⟨rfl, t1, h3', g3, b3, s3⟩
          have H3 := Lib.hid h3'
          have G3 := Lib.hid g3
          have B3 := Lib.hid b3
          have S3' := Lib.hid s3
          clear h3' g3 b3 s3
          have T3 : Hid (Srt lt (t1) mid e) := Lib.hid (fun p q h1 h2 h3 => by rw [B3.out.o p (by omega), B3.out.o q (by omega)]; exact S3.out p q h1 h2 h3)
          have T4 : Hid (Srt lt (t1) e b) := Lib.hid (fun p q h1 h2 h3 => by rw [B3.out.o p (by omega), B3.out.o q (by omega)]; exact S4.out p q h1 h2 h3)
          have TW : Hid (Low (t1) mid e b) := Lib.hid (fun p q h1 h2 h3 h4 => by rw [B3.out.o p (by omega), B3.out.o q (by omega)]; exact W2.out p q h1 h2 h3 h4)
          by_cases hz : mid < e ∧ e < b
          · obtain ⟨z1, z2⟩ := hz
            have z1' : ((a : Int) + b) / 2 < (e : Int) := by omega
            have HM2 := Lib.hid (fun u hu => HM'.out (t1) mid e b u (by omega) z1 z2 h3 hu G3.out T3.out T4.out TW.out)
            rw [em.out, ee.out] at HM2
            rw [ee.out] at z1'
            (go_wp2_with fail) <;> (
            refine (HM2.out _ H3.out).mono ?_
            rintro e' w3 ⟨rfl, t2, h4, g4, b4, s4⟩
            have H4 := Lib.hid h4
            have M4 := Lib.hid (merged (t := rot s c m e) (by omega) (by omega) X.out S3'.out B3.out s4 b4)
            have G4 := Lib.hid g4
            clear h4 g4 b4 s4
            (go_wp2_with fail) <;> (go_end0; exact ⟨rfl, t2, H4.out, G4.out, RB.out.trans M4.out.2, M4.out.1⟩))
          · have Z : Hid (Srt lt (t1) mid b) := Lib.hid (by
              by_cases q : e = mid
              · rw [← q]; exact T4.out
              · have q2 : e = b := by omega
                rw [← q2]; exact T3.out)
            have M4 := Lib.hid (merged (t := rot s c m e) (t1 := t1) (t2 := t1) (by omega) (by omega) X.out S3'.out B3.out Z.out (Sb.refl _ _ _))
            have hz' : ¬ (((a : Int) + b) / 2 < (((a : Int) + b) / 2 + m - c : Int) ∧ (((a : Int) + b) / 2 + m - c : Int) < b) := by omega
            by_cases hy : ((a : Int) + b) / 2 < (((a : Int) + b) / 2 + m - c : Int)
            · have hx : ¬ (((a : Int) + b) / 2 + m - c : Int) < b := by omega
              (go_wp2_with fail) <;> (go_end0; exact ⟨rfl, _, H3.out, G3.out, RB.out.trans M4.out.2, M4.out.1⟩)
            · (go_wp2_with fail) <;> (go_end0; exact ⟨rfl, _, H3.out, G3.out, RB.out.trans M4.out.2, M4.out.1⟩)
        · have Z0 : Hid (Srt lt (rot s c m e) a mid) := Lib.hid (by
            by_cases q : c = a
            · rw [← q]; exact S2.out
            · have q2 : c = mid := by omega
              rw [← q2]; exact S1.out)
          have Z1 : Hid (Sb (rot s c m e) (rot s c m e) a mid) := Lib.hid (Sb.refl _ _ _)
          have hy' : ¬ ((a : Int) < c ∧ (c : Int) < ((a : Int) + b) / 2) := by omega
          by_cases hx : a < c
          · have hx' : ¬ (c : Int) < ((a : Int) + b) / 2 := by omega
            have T3 : Hid (Srt lt (rot s c m e) mid e) := Lib.hid (fun p q h1 h2 h3 => by rw [Z1.out.o p (by omega), Z1.out.o q (by omega)]; exact S3.out p q h1 h2 h3)
            have T4 : Hid (Srt lt (rot s c m e) e b) := Lib.hid (fun p q h1 h2 h3 => by rw [Z1.out.o p (by omega), Z1.out.o q (by omega)]; exact S4.out p q h1 h2 h3)
            have TW : Hid (Low (rot s c m e) mid e b) := Lib.hid (fun p q h1 h2 h3 h4 => by rw [Z1.out.o p (by omega), Z1.out.o q (by omega)]; exact W2.out p q h1 h2 h3 h4)
            by_cases hz : mid < e ∧ e < b
            · obtain ⟨z1, z2⟩ := hz
              have z1' : ((a : Int) + b) / 2 < (e : Int) := by omega
              have HM2 := Lib.hid (fun u hu => HM'.out (rot s c m e) mid e b u (by omega) z1 z2 h3 hu G2.out T3.out T4.out TW.out)
              rw [em.out, ee.out] at HM2
              rw [ee.out] at z1'
              (go_wp2_with fail) <;> (
              refine (HM2.out _ H2.out).mono ?_
              rintro e' w3 ⟨rfl, t2, h4, g4, b4, s4⟩
              have H4 := Lib.hid h4
              have M4 := Lib.hid (merged (t := rot s c m e) (by omega) (by omega) X.out Z0.out Z1.out s4 b4)
              have G4 := Lib.hid g4
              clear h4 g4 b4 s4
              (go_wp2_with fail) <;> (go_end0; exact ⟨rfl, t2, H4.out, G4.out, RB.out.trans M4.out.2, M4.out.1⟩))
            · have Z : Hid (Srt lt (rot s c m e) mid b) := Lib.hid (by
                by_cases q : e = mid
                · rw [← q]; exact T4.out
                · have q2 : e = b := by omega
                  rw [← q2]; exact T3.out)
              have M4 := Lib.hid (merged (t := rot s c m e) (t1 := rot s c m e) (t2 := rot s c m e) (by omega) (by omega) X.out Z0.out Z1.out Z.out (Sb.refl _ _ _))
              have hz' : ¬ (((a : Int) + b) / 2 < (((a : Int) + b) / 2 + m - c : Int) ∧ (((a : Int) + b) / 2 + m - c : Int) < b) := by omega
              by_cases hy : ((a : Int) + b) / 2 < (((a : Int) + b) / 2 + m - c : Int)
              · have hx : ¬ (((a : Int) + b) / 2 + m - c : Int) < b := by omega
                (go_wp2_with fail) <;> (go_end0; exact ⟨rfl, _, H2.out, G2.out, RB.out.trans M4.out.2, M4.out.1⟩)
              · (go_wp2_with fail) <;> (go_end0; exact ⟨rfl, _, H2.out, G2.out, RB.out.trans M4.out.2, M4.out.1⟩)
          · skip
            have T3 : Hid (Srt lt (rot s c m e) mid e) := Lib.hid (fun p q h1 h2 h3 => by rw [Z1.out.o p (by omega), Z1.out.o q (by omega)]; exact S3.out p q h1 h2 h3)
            have T4 : Hid (Srt lt (rot s c m e) e b) := Lib.hid (fun p q h1 h2 h3 => by rw [Z1.out.o p (by omega), Z1.out.o q (by omega)]; exact S4.out p q h1 h2 h3)
            have TW : Hid (Low (rot s c m e) mid e b) := Lib.hid (fun p q h1 h2 h3 h4 => by rw [Z1.out.o p (by omega), Z1.out.o q (by omega)]; exact W2.out p q h1 h2 h3 h4)
            by_cases hz : mid < e ∧ e < b
            · obtain ⟨z1, z2⟩ := hz
              have z1' : ((a : Int) + b) / 2 < (e : Int) := by omega
              have HM2 := Lib.hid (fun u hu => HM'.out (rot s c m e) mid e b u (by omega) z1 z2 h3 hu G2.out T3.out T4.out TW.out)
              rw [em.out, ee.out] at HM2
              rw [ee.out] at z1'
              (go_wp2_with fail) <;> (
              refine (HM2.out _ H2.out).mono ?_
              rintro e' w3 ⟨rfl, t2, h4, g4, b4, s4⟩
              have H4 := Lib.hid h4
              have M4 := Lib.hid (merged (t := rot s c m e) (by omega) (by omega) X.out Z0.out Z1.out s4 b4)
              have G4 := Lib.hid g4
              clear h4 g4 b4 s4
              (go_wp2_with fail) <;> (go_end0; exact ⟨rfl, t2, H4.out, G4.out, RB.out.trans M4.out.2, M4.out.1⟩))
            · have Z : Hid (Srt lt (rot s c m e) mid b) := Lib.hid (by
                by_cases q : e = mid
                · rw [← q]; exact T4.out
                · have q2 : e = b := by omega
                  rw [← q2]; exact T3.out)
              have M4 := Lib.hid (merged (t := rot s c m e) (t1 := rot s c m e) (t2 := rot s c m e) (by omega) (by omega) X.out Z0.out Z1.out Z.out (Sb.refl _ _ _))
              have hz' : ¬ (((a : Int) + b) / 2 < (((a : Int) + b) / 2 + m - c : Int) ∧ (((a : Int) + b) / 2 + m - c : Int) < b) := by omega
              by_cases hy : ((a : Int) + b) / 2 < (((a : Int) + b) / 2 + m - c : Int)
              · have hx : ¬ (((a : Int) + b) / 2 + m - c : Int) < b := by omega
                (go_wp2_with fail) <;> (go_end0; exact ⟨rfl, _, H2.out, G2.out, RB.out.trans M4.out.2, M4.out.1⟩)
              · (go_wp2_with fail) <;> (go_end0; exact ⟨rfl, _, H2.out, G2.out, RB.out.trans M4.out.2, M4.out.1⟩)
      · have RE : rot s c m e = s := by
          by_cases q : c = m
          · rw [q]; exact rot_done s
          · have q2 : e = m := by omega
            rw [q2]; exact rot_none s
        have H2 : Hid (St (rot s c m e) wr) := Lib.hid (by rw [RE]; exact H.out)
        have G2 : Hid (Gd n (rot s c m e)) := Lib.hid (by rw [RE]; exact Hg.out)
        clear RE H
        by_cases hv : c < m
        · have hv' : ¬ (m : Int) < ((a : Int) + b) / 2 + m - c := by omega
          by_cases hy : a < c ∧ c < mid
          · obtain ⟨y1, y2⟩ := hy
            have y2' : (c : Int) < ((a : Int) + b) / 2 := by omega
            have HM1 := Lib.hid (fun u hu => HM'.out (rot s c m e) a c mid u (by omega) y1 y2 (by omega) hu G2.out S1.out S2.out W1.out)
            rw [em.out] at HM1
            go_wp2_with fail
            refine (HM1.out _ H2.out).mono ?_
            rintro e' w2 ⟨rfl, t1, h3', g3, b3, s3⟩
            have H3 := Lib.hid h3'
            have G3 := Lib.hid g3
            have B3 := Lib.hid b3
            have S3' := Lib.hid s3
            clear h3' g3 b3 s3
            have T3 : Hid (Srt lt (t1) mid e) := Lib.hid (fun p q h1 h2 h3 => by rw [B3.out.o p (by omega), B3.out.o q (by omega)]; exact S3.out p q h1 h2 h3)
            have T4 : Hid (Srt lt (t1) e b) := Lib.hid (fun p q h1 h2 h3 => by rw [B3.out.o p (by omega), B3.out.o q (by omega)]; exact S4.out p q h1 h2 h3)
            have TW : Hid (Low (t1) mid e b) := Lib.hid (fun p q h1 h2 h3 h4 => by rw [B3.out.o p (by omega), B3.out.o q (by omega)]; exact W2.out p q h1 h2 h3 h4)
            by_cases hz : mid < e ∧ e < b
            · obtain ⟨z1, z2⟩ := hz
              have z1' : ((a : Int) + b) / 2 < (e : Int) := by omega
              have HM2 := Lib.hid (fun u hu => HM'.out (t1) mid e b u (by omega) z1 z2 h3 hu G3.out T3.out T4.out TW.out)
              rw [em.out, ee.out] at HM2
              rw [ee.out] at z1'
              (go_wp2_with fail) <;> (
              refine (HM2.out _ H3.out).mono ?_
              rintro e' w3 ⟨rfl, t2, h4, g4, b4, s4⟩
              have H4 := Lib.hid h4
              have M4 := Lib.hid (merged (t := rot s c m e) (by omega) (by omega) X.out S3'.out B3.out s4 b4)
              have G4 := Lib.hid g4
              clear h4 g4 b4 s4
              (go_wp2_with fail) <;> (go_end0; exact ⟨rfl, t2, H4.out, G4.out, RB.out.trans M4.out.2, M4.out.1⟩))
            · have Z : Hid (Srt lt (t1) mid b) := Lib.hid (by
                by_cases q : e = mid
                · rw [← q]; exact T4.out
                · have q2 : e = b := by omega
                  rw [← q2]; exact T3.out)
              have M4 := Lib.hid (merged (t := rot s c m e) (t1 := t1) (t2 := t1) (by omega) (by omega) X.out S3'.out B3.out Z.out (Sb.refl _ _ _))
              have hz' : ¬ (((a : Int) + b) / 2 < (((a : Int) + b) / 2 + m - c : Int) ∧ (((a : Int) + b) / 2 + m - c : Int) < b) := by omega
              by_cases hy : ((a : Int) + b) / 2 < (((a : Int) + b) / 2 + m - c : Int)
              · have hx : ¬ (((a : Int) + b) / 2 + m - c : Int) < b := by omega
                (go_wp2_with fail) <;> (go_end0; exact ⟨rfl, _, H3.out, G3.out, RB.out.trans M4.out.2, M4.out.1⟩)
              · (go_wp2_with fail) <;> (go_end0; exact ⟨rfl, _, H3.out, G3.out, RB.out.trans M4.out.2, M4.out.1⟩)
          · have Z0 : Hid (Srt lt (rot s c m e) a mid) := Lib.hid (by
              by_cases q : c = a
              · rw [← q]; exact S2.out
              · have q2 : c = mid := by omega
                rw [← q2]; exact S1.out)
            have Z1 : Hid (Sb (rot s c m e) (rot s c m e) a mid) := Lib.hid (Sb.refl _ _ _)
            have hy' : ¬ ((a : Int) < c ∧ (c : Int) < ((a : Int) + b) / 2) := by omega
            by_cases hx : a < c
            · have hx' : ¬ (c : Int) < ((a : Int) + b) / 2 := by omega
              have T3 : Hid (Srt lt (rot s c m e) mid e) := Lib.hid (fun p q h1 h2 h3 => by rw [Z1.out.o p (by omega), Z1.out.o q (by omega)]; exact S3.out p q h1 h2 h3)
              have T4 : Hid (Srt lt (rot s c m e) e b) := Lib.hid (fun p q h1 h2 h3 => by rw [Z1.out.o p (by omega), Z1.out.o q (by omega)]; exact S4.out p q h1 h2 h3)
              have TW : Hid (Low (rot s c m e) mid e b) := Lib.hid (fun p q h1 h2 h3 h4 => by rw [Z1.out.o p (by omega), Z1.out.o q (by omega)]; exact W2.out p q h1 h2 h3 h4)
              by_cases hz : mid < e ∧ e < b
              · obtain ⟨z1, z2⟩ := hz
                have z1' : ((a : Int) + b) / 2 < (e : Int) := by omega
                have HM2 := Lib.hid (fun u hu => HM'.out (rot s c m e) mid e b u (by omega) z1 z2 h3 hu G2.out T3.out T4.out TW.out)
                rw [em.out, ee.out] at HM2
                rw [ee.out] at z1'
                (go_wp2_with fail) <;> (
                refine (HM2.out _ H2.out).mono ?_
                rintro e' w3 ⟨rfl, t2, h4, g4, b4, s4⟩
                have H4 := Lib.hid h4
                have M4 := Lib.hid (merged (t := rot s c m e) (by omega) (by omega) X.out Z0.out Z1.out s4 b4)
                have G4 := Lib.hid g4
                clear h4 g4 b4 s4
                (go_wp2_with fail) <;> (go_end0; exact ⟨rfl, t2, H4.out, G4.out, RB.out.trans M4.out.2, M4.out.1⟩))
              · have Z : Hid (Srt lt (rot s c m e) mid b) := Lib.hid (by
                  by_cases q : e = mid
                  · rw [← q]; exact T4.out
                  · have q2 : e = b := by omega
                    rw [← q2]; exact T3.out)
                have M4 := Lib.hid (merged (t := rot s c m e) (t1 := rot s c m e) (t2 := rot s c m e) (by omega) (by omega) X.out Z0.out Z1.out Z.out (Sb.refl _ _ _))
                have hz' : ¬ (((a : Int) + b) / 2 < (((a : Int) + b) / 2 + m - c : Int) ∧ (((a : Int) + b) / 2 + m - c : Int) < b) := by omega
                by_cases hy : ((a : Int) + b) / 2 < (((a : Int) + b) / 2 + m - c : Int)
                · have hx : ¬ (((a : Int) + b) / 2 + m - c : Int) < b := by omega
                  (go_wp2_with fail) <;> (go_end0; exact ⟨rfl, _, H2.out, G2.out, RB.out.trans M4.out.2, M4.out.1⟩)
                · (go_wp2_with fail) <;> (go_end0; exact ⟨rfl, _, H2.out, G2.out, RB.out.trans M4.out.2, M4.out.1⟩)
            · skip
              have T3 : Hid (Srt lt (rot s c m e) mid e) := Lib.hid (fun p q h1 h2 h3 => by rw [Z1.out.o p (by omega), Z1.out.o q (by omega)]; exact S3.out p q h1 h2 h3)
              have T4 : Hid (Srt lt (rot s c m e) e b) := Lib.hid (fun p q h1 h2 h3 => by rw [Z1.out.o p (by omega), Z1.out.o q (by omega)]; exact S4.out p q h1 h2 h3)
              have TW : Hid (Low (rot s c m e) mid e b) := Lib.hid (fun p q h1 h2 h3 h4 => by rw [Z1.out.o p (by omega), Z1.out.o q (by omega)]; exact W2.out p q h1 h2 h3 h4)
              by_cases hz : mid < e ∧ e < b
              · obtain ⟨z1, z2⟩ := hz
                have z1' : ((a : Int) + b) / 2 < (e : Int) := by omega
                have HM2 := Lib.hid (fun u hu => HM'.out (rot s c m e) mid e b u (by omega) z1 z2 h3 hu G2.out T3.out T4.out TW.out)
                rw [em.out, ee.out] at HM2
                rw [ee.out] at z1'
                (go_wp2_with fail) <;> (
                refine (HM2.out _ H2.out).mono ?_
                rintro e' w3 ⟨rfl, t2, h4, g4, b4, s4⟩
                have H4 := Lib.hid h4
                have M4 := Lib.hid (merged (t := rot s c m e) (by omega) (by omega) X.out Z0.out Z1.out s4 b4)
                have G4 := Lib.hid g4
                clear h4 g4 b4 s4
                (go_wp2_with fail) <;> (go_end0; exact ⟨rfl, t2, H4.out, G4.out, RB.out.trans M4.out.2, M4.out.1⟩))
              · have Z : Hid (Srt lt (rot s c m e) mid b) := Lib.hid (by
                  by_cases q : e = mid
                  · rw [← q]; exact T4.out
                  · have q2 : e = b := by omega
                    rw [← q2]; exact T3.out)
                have M4 := Lib.hid (merged (t := rot s c m e) (t1 := rot s c m e) (t2 := rot s c m e) (by omega) (by omega) X.out Z0.out Z1.out Z.out (Sb.refl _ _ _))
                have hz' : ¬ (((a : Int) + b) / 2 < (((a : Int) + b) / 2 + m - c : Int) ∧ (((a : Int) + b) / 2 + m - c : Int) < b) := by omega
                by_cases hy : ((a : Int) + b) / 2 < (((a : Int) + b) / 2 + m - c : Int)
                · have hx : ¬ (((a : Int) + b) / 2 + m - c : Int) < b := by omega
                  (go_wp2_with fail) <;> (go_end0; exact ⟨rfl, _, H2.out, G2.out, RB.out.trans M4.out.2, M4.out.1⟩)
                · (go_wp2_with fail) <;> (go_end0; exact ⟨rfl, _, H2.out, G2.out, RB.out.trans M4.out.2, M4.out.1⟩)
        · skip
          by_cases hy : a < c ∧ c < mid
          · obtain ⟨y1, y2⟩ := hy
            have y2' : (c : Int) < ((a : Int) + b) / 2 := by omega
            have HM1 := Lib.hid (fun u hu => HM'.out (rot s c m e) a c mid u (by omega) y1 y2 (by omega) hu G2.out S1.out S2.out W1.out)
            rw [em.out] at HM1
            go_wp2_with fail
            refine (HM1.out _ H2.out).mono ?_
            rintro e' w2 ⟨rfl, t1, h3', g3, b3, s3⟩
            have H3 := Lib.hid h3'
            have G3 := Lib.hid g3
            have B3 := Lib.hid b3
            have S3' := Lib.hid s3
            clear h3' g3 b3 s3
            have T3 : Hid (Srt lt (t1) mid e) := Lib.hid (fun p q h1 h2 h3 => by rw [B3.out.o p (by omega), B3.out.o q (by omega)]; exact S3.out p q h1 h2 h3)
            have T4 : Hid (Srt lt (t1) e b) := Lib.hid (fun p q h1 h2 h3 => by rw [B3.out.o p (by omega), B3.out.o q (by omega)]; exact S4.out p q h1 h2 h3)
            have TW : Hid (Low (t1) mid e b) := Lib.hid (fun p q h1 h2 h3 h4 => by rw [B3.out.o p (by omega), B3.out.o q (by omega)]; exact W2.out p q h1 h2 h3 h4)
            by_cases hz : mid < e ∧ e < b
            · obtain ⟨z1, z2⟩ := hz
              have z1' : ((a : Int) + b) / 2 < (e : Int) := by omega
              have HM2 := Lib.hid (fun u hu => HM'.out (t1) mid e b u (by omega) z1 z2 h3 hu G3.out T3.out T4.out TW.out)
              rw [em.out, ee.out] at HM2
              rw [ee.out] at z1'
              (go_wp2_with fail) <;> (
              refine (HM2.out _ H3.out).mono ?_
              rintro e' w3 ⟨rfl, t2, h4, g4, b4, s4⟩
              have H4 := Lib.hid h4
              have M4 := Lib.hid (merged (t := rot s c m e) (by omega) (by omega) X.out S3'.out B3.out s4 b4)
              have G4 := Lib.hid g4
              clear h4 g4 b4 s4
              (go_wp2_with fail) <;> (go_end0; exact ⟨rfl, t2, H4.out, G4.out, RB.out.trans M4.out.2, M4.out.1⟩))
            · have Z : Hid (Srt lt (t1) mid b) := Lib.hid (by
                by_cases q : e = mid
                · rw [← q]; exact T4.out
                · have q2 : e = b := by omega
                  rw [← q2]; exact T3.out)
              have M4 := Lib.hid (merged (t := rot s c m e) (t1 := t1) (t2 := t1) (by omega) (by omega) X.out S3'.out B3.out Z.out (Sb.refl _ _ _))
              have hz' : ¬ (((a : Int) + b) / 2 < (((a : Int) + b) / 2 + m - c : Int) ∧ (((a : Int) + b) / 2 + m - c : Int) < b) := by omega
              by_cases hy : ((a : Int) + b) / 2 < (((a : Int) + b) / 2 + m - c : Int)
              · have hx : ¬ (((a : Int) + b) / 2 + m - c : Int) < b := by omega
                (go_wp2_with fail) <;> (go_end0; exact ⟨rfl, _, H3.out, G3.out, RB.out.trans M4.out.2, M4.out.1⟩)
              · (go_wp2_with fail) <;> (go_end0; exact ⟨rfl, _, H3.out, G3.out, RB.out.trans M4.out.2, M4.out.1⟩)
          · have Z0 : Hid (Srt lt (rot s c m e) a mid) := Lib.hid (by
              by_cases q : c = a
              · rw [← q]; exact S2.out
              · have q2 : c = mid := by omega
                rw [← q2]; exact S1.out)
            have Z1 : Hid (Sb (rot s c m e) (rot s c m e) a mid) := Lib.hid (Sb.refl _ _ _)
            have hy' : ¬ ((a : Int) < c ∧ (c : Int) < ((a : Int) + b) / 2) := by omega
            by_cases hx : a < c
            · have hx' : ¬ (c : Int) < ((a : Int) + b) / 2 := by omega
              have T3 : Hid (Srt lt (rot s c m e) mid e) := Lib.hid (fun p q h1 h2 h3 => by rw [Z1.out.o p (by omega), Z1.out.o q (by omega)]; exact S3.out p q h1 h2 h3)
              have T4 : Hid (Srt lt (rot s c m e) e b) := Lib.hid (fun p q h1 h2 h3 => by rw [Z1.out.o p (by omega), Z1.out.o q (by omega)]; exact S4.out p q h1 h2 h3)
              have TW : Hid (Low (rot s c m e) mid e b) := Lib.hid (fun p q h1 h2 h3 h4 => by rw [Z1.out.o p (by omega), Z1.out.o q (by omega)]; exact W2.out p q h1 h2 h3 h4)
              by_cases hz : mid < e ∧ e < b
              · obtain ⟨z1, z2⟩ := hz
                have z1' : ((a : Int) + b) / 2 < (e : Int) := by omega
                have HM2 := Lib.hid (fun u hu => HM'.out (rot s c m e) mid e b u (by omega) z1 z2 h3 hu G2.out T3.out T4.out TW.out)
                rw [em.out, ee.out] at HM2
                rw [ee.out] at z1'
                (go_wp2_with fail) <;> (
                refine (HM2.out _ H2.out).mono ?_
                rintro e' w3 ⟨rfl, t2, h4, g4, b4, s4⟩
                have H4 := Lib.hid h4
                have M4 := Lib.hid (merged (t := rot s c m e) (by omega) (by omega) X.out Z0.out Z1.out s4 b4)
                have G4 := Lib.hid g4
                clear h4 g4 b4 s4
                (go_wp2_with fail) <;> (go_end0; exact ⟨rfl, t2, H4.out, G4.out, RB.out.trans M4.out.2, M4.out.1⟩))
              · have Z : Hid (Srt lt (rot s c m e) mid b) := Lib.hid (by
                  by_cases q : e = mid
                  · rw [← q]; exact T4.out
                  · have q2 : e = b := by omega
                    rw [← q2]; exact T3.out)
                have M4 := Lib.hid (merged (t := rot s c m e) (t1 := rot s c m e) (t2 := rot s c m e) (by omega) (by omega) X.out Z0.out Z1.out Z.out (Sb.refl _ _ _))
                have hz' : ¬ (((a : Int) + b) / 2 < (((a : Int) + b) / 2 + m - c : Int) ∧ (((a : Int) + b) / 2 + m - c : Int) < b) := by omega
                by_cases hy : ((a : Int) + b) / 2 < (((a : Int) + b) / 2 + m - c : Int)
                · have hx : ¬ (((a : Int) + b) / 2 + m - c : Int) < b := by omega
                  (go_wp2_with fail) <;> (go_end0; exact ⟨rfl, _, H2.out, G2.out, RB.out.trans M4.out.2, M4.out.1⟩)
                · (go_wp2_with fail) <;> (go_end0; exact ⟨rfl, _, H2.out, G2.out, RB.out.trans M4.out.2, M4.out.1⟩)
            · skip
              have T3 : Hid (Srt lt (rot s c m e) mid e) := Lib.hid (fun p q h1 h2 h3 => by rw [Z1.out.o p (by omega), Z1.out.o q (by omega)]; exact S3.out p q h1 h2 h3)
              have T4 : Hid (Srt lt (rot s c m e) e b) := Lib.hid (fun p q h1 h2 h3 => by rw [Z1.out.o p (by omega), Z1.out.o q (by omega)]; exact S4.out p q h1 h2 h3)
              have TW : Hid (Low (rot s c m e) mid e b) := Lib.hid (fun p q h1 h2 h3 h4 => by rw [Z1.out.o p (by omega), Z1.out.o q (by omega)]; exact W2.out p q h1 h2 h3 h4)
              by_cases hz : mid < e ∧ e < b
              · obtain ⟨z1, z2⟩ := hz
                have z1' : ((a : Int) + b) / 2 < (e : Int) := by omega
                have HM2 := Lib.hid (fun u hu => HM'.out (rot s c m e) mid e b u (by omega) z1 z2 h3 hu G2.out T3.out T4.out TW.out)
                rw [em.out, ee.out] at HM2
                rw [ee.out] at z1'
                (go_wp2_with fail) <;> (
                refine (HM2.out _ H2.out).mono ?_
                rintro e' w3 ⟨rfl, t2, h4, g4, b4, s4⟩
                have H4 := Lib.hid h4
                have M4 := Lib.hid (merged (t := rot s c m e) (by omega) (by omega) X.out Z0.out Z1.out s4 b4)
                have G4 := Lib.hid g4
                clear h4 g4 b4 s4
                (go_wp2_with fail) <;> (go_end0; exact ⟨rfl, t2, H4.out, G4.out, RB.out.trans M4.out.2, M4.out.1⟩))
              · have Z : Hid (Srt lt (rot s c m e) mid b) := Lib.hid (by
                  by_cases q : e = mid
                  · rw [← q]; exact T4.out
                  · have q2 : e = b := by omega
                    rw [← q2]; exact T3.out)
                have M4 := Lib.hid (merged (t := rot s c m e) (t1 := rot s c m e) (t2 := rot s c m e) (by omega) (by omega) X.out Z0.out Z1.out Z.out (Sb.refl _ _ _))
                have hz' : ¬ (((a : Int) + b) / 2 < (((a : Int) + b) / 2 + m - c : Int) ∧ (((a : Int) + b) / 2 + m - c : Int) < b) := by omega
                by_cases hy : ((a : Int) + b) / 2 < (((a : Int) + b) / 2 + m - c : Int)
                · have hx : ¬ (((a : Int) + b) / 2 + m - c : Int) < b := by omega
                  (go_wp2_with fail) <;> (go_end0; exact ⟨rfl, _, H2.out, G2.out, RB.out.trans M4.out.2, M4.out.1⟩)
                · (go_wp2_with fail) <;> (go_end0; exact ⟨rfl, _, H2.out, G2.out, RB.out.trans M4.out.2, M4.out.1⟩)
set_option maxRecDepth 100000 in
set_option maxHeartbeats 4000000 in
theorem sort_sym4 (I : SI n lt T v fL fS St) (s : Nat → Nat) (a m b mid : Nat) (W : World) (q1 : 2 * mid ≤ a + b) (q2 : a + b ≤ 2 * mid + 1) (h0 : a + 1 < m) (h1 : m + 1 < b) (h3 : b ≤ n) (hm : m ≤ mid) (hs : St s W) (g : Gd n s) (L : Srt lt s a m) (R : Srt lt s m b) (lo : Low s a m b)
    (HM : ∀ (s : Nat → Nat) (a' m b' : Nat) (W : World), b' - a' < b - a → a' < m → m < b' → b' ≤ n → St s W → Gd n s → Srt lt s a' m → Srt lt s m b' → Low s a' m b' → Calls Try.prog 19 #[.iface T v, .int .i64 a', .int .i64 m, .int .i64 b'] W fun e w' => e = .returned (.tuple #[]) ∧ ∃ t, St t w' ∧ Gd n t ∧ Sb s t a' b' ∧ Srt lt t a' b') :
    Calls Try.prog 19 #[.iface T v, .int .i64 a, .int .i64 m, .int .i64 b] W fun e w' => e = .returned (.tuple #[]) ∧ ∃ t, St t w' ∧ Gd n t ∧ Sb s t a b ∧ Srt lt t a b := by
  have hn := I.bd
  have mL := I.mL
  have mS := I.mS
  have eL := I.eL
  have eS := I.eS
  have HL := Lib.hid I.L
  have HS := Lib.hid I.S
  have SW := Lib.hid I.sw
  have Hs := Lib.hid hs
  have Hg := Lib.hid g
  have HRo := Lib.hid (fun s a m b u h1 h2 h3 hs g => sort_rot I s a m b u h1 h2 h3 hs g)
  have HL' := Lib.hid L
  have HR' := Lib.hid R
  have HW := Lib.hid lo
  have HM' := Lib.hid HM
  have em := Lib.hid (show (mid : Int) = ((a : Int) + b) / 2 by omega)
  have d1 : ((m : Int) - (a : Int) == 1) = false := by rw [beq_eq_false_iff_ne]; omega
  have d2 : ((b : Int) - (m : Int) == 1) = false := by rw [beq_eq_false_iff_ne]; omega
  have d3 : ¬ ((a : Int) + b) / 2 < (m : Int) := by omega
  clear hs g I L R lo HM
  go_enter Try.func19, Try.ntmps19
  go_wp2_with fail
  clear d1 d2 d3
  go_loopw [18, 19] (fun cv rv wr => ∃ (c r : Nat), cv = .int .i64 c ∧ rv = .int .i64 r ∧ a ≤ c ∧ c ≤ r ∧ r ≤ m ∧ r ≤ mid ∧ mid + m ≤ c + b ∧ Hid (c = a ∨ c + b = mid + m ∨ Pr lt (s (c - 1)) (s (mid + m - c))) ∧ Hid (r = m ∨ r = mid ∨ Pr lt (s (mid + m - 1 - r)) (s r)) ∧ St s wr) (fun cv rv _ => (intOf rv).toNat - (intOf cv).toNat)
  case atStart => exact ⟨a, m, rfl, rfl, by omega, by omega, by omega, by omega, by omega, Lib.hid (.inl rfl), Lib.hid (.inl rfl), Hs.out⟩
  case round =>
    obtain ⟨c, r, rfl, rfl, ac, cr, rm, rmid, cb, A, B, h⟩ := hrel
    have H := Lib.hid h
    clear h
    by_cases hlt : c < r
    · have Q := Lib.hid (HW.out ((c + r) / 2) (mid + m - 1 - (c + r) / 2) (by omega) (by omega) (by omega) (by omega))
      have HL1 := Lib.hid (fun u hu => HL.out s (mid + m - 1 - (c + r) / 2) ((c + r) / 2) u (by omega) (by omega) hu)
      rw [show (((mid + m - 1 - (c + r) / 2) : Nat) : Int) = ((a : Int) + b) / 2 + m - 1 - ((c : Int) + r) / 2 by omega] at HL1
      rw [show ((((c + r) / 2) : Nat) : Int) = ((c : Int) + r) / 2 by omega] at HL1
      go_wp2_with fail
      refine (HL1.out _ H.out).mono ?_
      rintro e w1 ⟨rfl, h1⟩
      have H1 := Lib.hid h1
      clear h1
      cases hl : lt (s (mid + m - 1 - (c + r) / 2)) (s ((c + r) / 2))
      · go_wp2_with fail
        go_roundw
        case rel => exact ⟨(c + r) / 2 + 1, r, vi (by omega), rfl, by omega, by omega, by omega, by omega, by omega, Lib.hid (.inr (.inr (by rw [show (c + r) / 2 + 1 - 1 = (c + r) / 2 by omega, show mid + m - ((c + r) / 2 + 1) = mid + m - 1 - (c + r) / 2 by omega]; exact .up Q.out hl))), B, H1.out⟩
        case measure => simp [intOf]; omega
      · go_wp2_with fail
        go_roundw
        case rel => exact ⟨c, (c + r) / 2, rfl, vi (by omega), by omega, by omega, by omega, by omega, by omega, A, Lib.hid (.inr (.inr (.dn hl))), H1.out⟩
        case measure => simp [intOf]; omega
    · obtain rfl : c = r := by omega
      obtain ⟨e, he⟩ : ∃ e, e = mid + m - c := ⟨_, rfl⟩
      have ee := Lib.hid (show (e : Int) = ((a : Int) + b) / 2 + m - c by omega)
      have e1 : e + c ≤ mid + m := by omega
      have e2 : mid + m ≤ e + c := by omega
      have K : Cut a c m e b mid := ⟨by omega, by omega, by omega, by omega, by omega⟩
      have A' : Hid (c = a ∨ e = b ∨ Pr lt (s (c - 1)) (s e)) := Lib.hid (by
        rcases A.out with A | A | A
        · exact .inl A
        · exact .inr (.inl (by omega))
        · rw [← he] at A; exact .inr (.inr A))
      have B' : Hid (e = m ∨ c = m ∨ Pr lt (s (e - 1)) (s c)) := Lib.hid (by
        rcases B.out with B | B | B
        · exact .inr (.inl B)
        · exact .inl (by omega)
        · rw [show mid + m - 1 - c = e - 1 by omega] at B; exact .inr (.inr B))
      have X := Lib.hid (fun x y x1 x2 y1 y2 => rot_cross K SW.out HL'.out HR'.out A'.out B'.out (x := x) (y := y) x1 x2 y1 y2)
      have S1 := Lib.hid (rot_s1 K HL'.out)
      have S2 := Lib.hid (rot_s2 K HR'.out)
      have S3 := Lib.hid (rot_s3 K HL'.out)
      have S4 := Lib.hid (rot_s4 K HR'.out)
      have W1 := Lib.hid (rot_w1 K HW.out)
      have W2 := Lib.hid (rot_w2 K HW.out)
      have RB := Lib.hid ((rot_sb s (a := c) (m := m) (b := e) (by omega) (by omega)).mono (a' := a) (b' := b) (by omega) (by omega))
      clear A B A' B' HL' HR' HW he
      by_cases hr : c < m ∧ m < e
      · obtain ⟨r1, r2⟩ := hr
        have r2' : (m : Int) < ((a : Int) + b) / 2 + m - c := by omega
        have HR1 := Lib.hid (fun u hu => HRo.out s c m e u r1 r2 (by omega) hu Hg.out)
        rw [ee.out] at HR1
        go_wp2_with fail
        refine (HR1.out _ H.out).mono ?_
        rintro e' w1 ⟨rfl, h2', g2⟩
        have H2 := Lib.hid h2'
        have G2 := Lib.hid g2
        clear h2' g2 H
        by_cases hy : a < c ∧ c < mid
        · obtain ⟨y1, y2⟩ := hy
          have y2' : (c : Int) < ((a : Int) + b) / 2 := by omega
          have HM1 := Lib.hid (fun u hu => HM'.out (rot s c m e) a c mid u (by omega) y1 y2 (by omega) hu G2.out S1.out S2.out W1.out)
          rw [em.out] at HM1
          go_wp2_with fail
          refine (HM1.out _ H2.out).mono ?_
          rintro e' w2 ⟨rfl, t1, h3', g3, b3, s3⟩
          have H3 := Lib.hid h3'
          have G3 := Lib.hid g3
          have B3 := Lib.hid b3
          have S3' := Lib.hid s3
          clear h3' g3 b3 s3
          have T3 : Hid (Srt lt (t1) mid e) := Lib.hid (fun p q h1 h2 h3 => by rw [B3.out.o p (by omega), B3.out.o q (by omega)]; exact S3.out p q h1 h2 h3)
          have T4 : Hid (Srt lt (t1) e b) := Lib.hid (fun p q h1 h2 h3 => by rw [B3.out.o p (by omega), B3.out.o q (by omega)]; exact S4.out p q h1 h2 h3)
          have TW : Hid (Low (t1) mid e b) := Lib.hid (fun p q h1 h2 h3 h4 => by rw [B3.out.o p (by omega), B3.out.o q (by omega)]; exact W2.out p q h1 h2 h3 h4)
          by_cases hz : mid < e ∧ e < b
          · obtain ⟨z1, z2⟩ := hz
            have z1' : ((a : Int) + b) / 2 < (e : Int) := by omega
            have HM2 := Lib.hid (fun u hu => HM'.out (t1) mid e b u (by omega) z1 z2 h3 hu G3.out T3.out T4.out TW.out)
            rw [em.out, ee.out] at HM2
            rw [ee.out] at z1'
            (go_wp2_with fail) <;> (
            refine (HM2.out _ H3.out).mono ?_
            rintro e' w3 ⟨rfl, t2, h4, g4, b4, s4⟩
            have H4 := Lib.hid h4
            have M4 := Lib.hid (merged (t := rot s c m e) (by omega) (by omega) X.out S3'.out B3.out s4 b4)
            have G4 := Lib.hid g4
            clear h4 g4 b4 s4
            (go_wp2_with fail) <;> (go_end0; exact ⟨rfl, t2, H4.out, G4.out, RB.out.trans M4.out.2, M4.out.1⟩))
          · have Z : Hid (Srt lt (t1) mid b) := Lib.hid (by
              by_cases q : e = mid
              · rw [← q]; exact T4.out
              · have q2 : e = b := by omega
                rw [← q2]; exact T3.out)
            have M4 := Lib.hid (merged (t := rot s c m e) (t1 := t1) (t2 := t1) (by omega) (by omega) X.out S3'.out B3.out Z.out (Sb.refl _ _ _))
            have hz' : ¬ (((a : Int) + b) / 2 < (((a : Int) + b) / 2 + m - c : Int) ∧ (((a : Int) + b) / 2 + m - c : Int) < b) := by omega
            by_cases hy : ((a : Int) + b) / 2 < (((a : Int) + b) / 2 + m - c : Int)
            · have hx : ¬ (((a : Int) + b) / 2 + m - c : Int) < b := by omega
              (go_wp2_with fail) <;> (go_end0; exact ⟨rfl, _, H3.out, G3.out, RB.out.trans M4.out.2, M4.out.1⟩)
            · (go_wp2_with fail) <;> (go_end0; exact ⟨rfl, _, H3.out, G3.out, RB.out.trans M4.out.2, M4.out.1⟩)
        · have Z0 : Hid (Srt lt (rot s c m e) a mid) := Lib.hid (by
            by_cases q : c = a
            · rw [← q]; exact S2.out
            · have q2 : c = mid := by omega
              rw [← q2]; exact S1.out)
          have Z1 : Hid (Sb (rot s c m e) (rot s c m e) a mid) := Lib.hid (Sb.refl _ _ _)
          have hy' : ¬ ((a : Int) < c ∧ (c : Int) < ((a : Int) + b) / 2) := by omega
          by_cases hx : a < c
          · have hx' : ¬ (c : Int) < ((a : Int) + b) / 2 := by omega
            have T3 : Hid (Srt lt (rot s c m e) mid e) := Lib.hid (fun p q h1 h2 h3 => by rw [Z1.out.o p (by omega), Z1.out.o q (by omega)]; exact S3.out p q h1 h2 h3)
            have T4 : Hid (Srt lt (rot s c m e) e b) := Lib.hid (fun p q h1 h2 h3 => by rw [Z1.out.o p (by omega), Z1.out.o q (by omega)]; exact S4.out p q h1 h2 h3)
            have TW : Hid (Low (rot s c m e) mid e b) := Lib.hid (fun p q h1 h2 h3 h4 => by rw [Z1.out.o p (by omega), Z1.out.o q (by omega)]; exact W2.out p q h1 h2 h3 h4)
            by_cases hz : mid < e ∧ e < b
            · obtain ⟨z1, z2⟩ := hz
              have z1' : ((a : Int) + b) / 2 < (e : Int) := by omega
              have HM2 := Lib.hid (fun u hu => HM'.out (rot s c m e) mid e b u (by omega) z1 z2 h3 hu G2.out T3.out T4.out TW.out)
              rw [em.out, ee.out] at HM2
              rw [ee.out] at z1'
              (go_wp2_with fail) <;> (
              refine (HM2.out _ H2.out).mono ?_
              rintro e' w3 ⟨rfl, t2, h4, g4, b4, s4⟩
              have H4 := Lib.hid h4
              have M4 := Lib.hid (merged (t := rot s c m e) (by omega) (by omega) X.out Z0.out Z1.out s4 b4)
              have G4 := Lib.hid g4
              clear h4 g4 b4 s4
              (go_wp2_with fail) <;> (go_end0; exact ⟨rfl, t2, H4.out, G4.out, RB.out.trans M4.out.2, M4.out.1⟩))
            · have Z : Hid (Srt lt (rot s c m e) mid b) := Lib.hid (by
                by_cases q : e = mid
                · rw [← q]; exact T4.out
                · have q2 : e = b := by omega
                  rw [← q2]; exact T3.out)
              have M4 := Lib.hid (merged (t := rot s c m e) (t1 := rot s c m e) (t2 := rot s c m e) (by omega) (by omega) X.out Z0.out Z1.out Z.out (Sb.refl _ _ _))
              have hz' : ¬ (((a : Int) + b) / 2 < (((a : Int) + b) / 2 + m - c : Int) ∧ (((a : Int) + b) / 2 + m - c : Int) < b) := by omega
              by_cases hy : ((a : Int) + b) / 2 < (((a : Int) + b) / 2 + m - c : Int)
              · have hx : ¬ (((a : Int) + b) / 2 + m - c : Int) < b := by omega
                (go_wp2_with fail) <;> (go_end0; exact ⟨rfl, _, H2.out, G2.out, RB.out.trans M4.out.2, M4.out.1⟩)
              · (go_wp2_with fail) <;> (go_end0; exact ⟨rfl, _, H2.out, G2.out, RB.out.trans M4.out.2, M4.out.1⟩)
          · skip
            have T3 : Hid (Srt lt (rot s c m e) mid e) := Lib.hid (fun p q h1 h2 h3 => by rw [Z1.out.o p (by omega), Z1.out.o q (by omega)]; exact S3.out p q h1 h2 h3)
            have T4 : Hid (Srt lt (rot s c m e) e b) := Lib.hid (fun p q h1 h2 h3 => by rw [Z1.out.o p (by omega), Z1.out.o q (by omega)]; exact S4.out p q h1 h2 h3)
            have TW : Hid (Low (rot s c m e) mid e b) := Lib.hid (fun p q h1 h2 h3 h4 => by rw [Z1.out.o p (by omega), Z1.out.o q (by omega)]; exact W2.out p q h1 h2 h3 h4)
            by_cases hz : mid < e ∧ e < b
            · obtain ⟨z1, z2⟩ := hz
              have z1' : ((a : Int) + b) / 2 < (e : Int) := by omega
              have HM2 := Lib.hid (fun u hu => HM'.out (rot s c m e) mid e b u (by omega) z1 z2 h3 hu G2.out T3.out T4.out TW.out)
              rw [em.out, ee.out] at HM2
              rw [ee.out] at z1'
              (go_wp2_with fail) <;> (
              refine (HM2.out _ H2.out).mono ?_
              rintro e' w3 ⟨rfl, t2, h4, g4, b4, s4⟩
              have H4 := Lib.hid h4
              have M4 := Lib.hid (merged (t := rot s c m e) (by omega) (by omega) X.out Z0.out Z1.out s4 b4)
              have G4 := Lib.hid g4
              clear h4 g4 b4 s4
              (go_wp2_with fail) <;> (go_end0; exact ⟨rfl, t2, H4.out, G4.out, RB.out.trans M4.out.2, M4.out.1⟩))
            · have Z : Hid (Srt lt (rot s c m e) mid b) := Lib.hid (by
                by_cases q : e = mid
                · rw [← q]; exact T4.out
                · have q2 : e = b := by omega
                  rw [← q2]; exact T3.out)
              have M4 := Lib.hid (merged (t := rot s c m e) (t1 := rot s c m e) (t2 := rot s c m e) (by omega) (by omega) X.out Z0.out Z1.out Z.out (Sb.refl _ _ _))
              have hz' : ¬ (((a : Int) + b) / 2 < (((a : Int) + b) / 2 + m - c : Int) ∧ (((a : Int) + b) / 2 + m - c : Int) < b) := by omega
              by_cases hy : ((a : Int) + b) / 2 < (((a : Int) + b) / 2 + m - c : Int)
              · have hx : ¬ (((a : Int) + b) / 2 + m - c : Int) < b := by omega
                (go_wp2_with fail) <;> (go_end0; exact ⟨rfl, _, H2.out, G2.out, RB.out.trans M4.out.2, M4.out.1⟩)
              · (go_wp2_with fail) <;> (go_end0; exact ⟨rfl, _, H2.out, G2.out, RB.out.trans M4.out.2, M4.out.1⟩)
      · have RE : rot s c m e = s := by
          by_cases q : c = m
          · rw [q]; exact rot_done s
          · have q2 : e = m := by omega
            rw [q2]; exact rot_none s
        have H2 : Hid (St (rot s c m e) wr) := Lib.hid (by rw [RE]; exact H.out)
        have G2 : Hid (Gd n (rot s c m e)) := Lib.hid (by rw [RE]; exact Hg.out)
        clear RE H
        by_cases hv : c < m
        · have hv' : ¬ (m : Int) < ((a : Int) + b) / 2 + m - c := by omega
          by_cases hy : a < c ∧ c < mid
          · obtain ⟨y1, y2⟩ := hy
            have y2' : (c : Int) < ((a : Int) + b) / 2 := by omega
            have HM1 := Lib.hid (fun u hu => HM'.out (rot s c m e) a c mid u (by omega) y1 y2 (by omega) hu G2.out S1.out S2.out W1.out)
            rw [em.out] at HM1
            go_wp2_with fail
            refine (HM1.out _ H2.out).mono ?_
            rintro e' w2 ⟨rfl, t1, h3', g3, b3, s3⟩
            have H3 := Lib.hid h3'
            have G3 := Lib.hid g3
            have B3 := Lib.hid b3
            have S3' := Lib.hid s3
            clear h3' g3 b3 s3
            have T3 : Hid (Srt lt (t1) mid e) := Lib.hid (fun p q h1 h2 h3 => by rw [B3.out.o p (by omega), B3.out.o q (by omega)]; exact S3.out p q h1 h2 h3)
            have T4 : Hid (Srt lt (t1) e b) := Lib.hid (fun p q h1 h2 h3 => by rw [B3.out.o p (by omega), B3.out.o q (by omega)]; exact S4.out p q h1 h2 h3)
            have TW : Hid (Low (t1) mid e b) := Lib.hid (fun p q h1 h2 h3 h4 => by rw [B3.out.o p (by omega), B3.out.o q (by omega)]; exact W2.out p q h1 h2 h3 h4)
            by_cases hz : mid < e ∧ e < b
            · obtain ⟨z1, z2⟩ := hz
              have z1' : ((a : Int) + b) / 2 < (e : Int) := by omega
              have HM2 := Lib.hid (fun u hu => HM'.out (t1) mid e b u (by omega) z1 z2 h3 hu G3.out T3.out T4.out TW.out)
              rw [em.out, ee.out] at HM2
              rw [ee.out] at z1'
              (go_wp2_with fail) <;> (
              refine (HM2.out _ H3.out).mono ?_
              rintro e' w3 ⟨rfl, t2, h4, g4, b4, s4⟩
              have H4 := Lib.hid h4
              have M4 := Lib.hid (merged (t := rot s c m e) (by omega) (by omega) X.out S3'.out B3.out s4 b4)
              have G4 := Lib.hid g4
              clear h4 g4 b4 s4
              (go_wp2_with fail) <;> (go_end0; exact ⟨rfl, t2, H4.out, G4.out, RB.out.trans M4.out.2, M4.out.1⟩))
            · have Z : Hid (Srt lt (t1) mid b) := Lib.hid (by
                by_cases q : e = mid
                · rw [← q]; exact T4.out
                · have q2 : e = b := by omega
                  rw [← q2]; exact T3.out)
              have M4 := Lib.hid (merged (t := rot s c m e) (t1 := t1) (t2 := t1) (by omega) (by omega) X.out S3'.out B3.out Z.out (Sb.refl _ _ _))
              have hz' : ¬ (((a : Int) + b) / 2 < (((a : Int) + b) / 2 + m - c : Int) ∧ (((a : Int) + b) / 2 + m - c : Int) < b) := by omega
              by_cases hy : ((a : Int) + b) / 2 < (((a : Int) + b) / 2 + m - c : Int)
              · have hx : ¬ (((a : Int) + b) / 2 + m - c : Int) < b := by omega
                (go_wp2_with fail) <;> (go_end0; exact ⟨rfl, _, H3.out, G3.out, RB.out.trans M4.out.2, M4.out.1⟩)
              · (go_wp2_with fail) <;> (go_end0; exact ⟨rfl, _, H3.out, G3.out, RB.out.trans M4.out.2, M4.out.1⟩)
          · have Z0 : Hid (Srt lt (rot s c m e) a mid) := Lib.hid (by
              by_cases q : c = a
              · rw [← q]; exact S2.out
              · have q2 : c = mid := by omega
                rw [← q2]; exact S1.out)
            have Z1 : Hid (Sb (rot s c m e) (rot s c m e) a mid) := Lib.hid (Sb.refl _ _ _)
            have hy' : ¬ ((a : Int) < c ∧ (c : Int) < ((a : Int) + b) / 2) := by omega
            by_cases hx : a < c
            · have hx' : ¬ (c : Int) < ((a : Int) + b) / 2 := by omega
              have T3 : Hid (Srt lt (rot s c m e) mid e) := Lib.hid (fun p q h1 h2 h3 => by rw [Z1.out.o p (by omega), Z1.out.o q (by omega)]; exact S3.out p q h1 h2 h3)
              have T4 : Hid (Srt lt (rot s c m e) e b) := Lib.hid (fun p q h1 h2 h3 => by rw [Z1.out.o p (by omega), Z1.out.o q (by omega)]; exact S4.out p q h1 h2 h3)
              have TW : Hid (Low (rot s c m e) mid e b) := Lib.hid (fun p q h1 h2 h3 h4 => by rw [Z1.out.o p (by omega), Z1.out.o q (by omega)]; exact W2.out p q h1 h2 h3 h4)
              by_cases hz : mid < e ∧ e < b
              · obtain ⟨z1, z2⟩ := hz
                have z1' : ((a : Int) + b) / 2 < (e : Int) := by omega
                have HM2 := Lib.hid (fun u hu => HM'.out (rot s c m e) mid e b u (by omega) z1 z2 h3 hu G2.out T3.out T4.out TW.out)
                rw [em.out, ee.out] at HM2
                rw [ee.out] at z1'
                (go_wp2_with fail) <;> (
                refine (HM2.out _ H2.out).mono ?_
                rintro e' w3 ⟨rfl, t2, h4, g4, b4, s4⟩
                have H4 := Lib.hid h4
                have M4 := Lib.hid (merged (t := rot s c m e) (by omega) (by omega) X.out Z0.out Z1.out s4 b4)
                have G4 := Lib.hid g4
                clear h4 g4 b4 s4
                (go_wp2_with fail) <;> (go_end0; exact ⟨rfl, t2, H4.out, G4.out, RB.out.trans M4.out.2, M4.out.1⟩))
              · have Z : Hid (Srt lt (rot s c m e) mid b) := Lib.hid (by
                  by_cases q : e = mid
                  · rw [← q]; exact T4.out
                  · have q2 : e = b := by omega
                    rw [← q2]; exact T3.out)
                have M4 := Lib.hid (merged (t := rot s c m e) (t1 := rot s c m e) (t2 := rot s c m e) (by omega) (by omega) X.out Z0.out Z1.out Z.out (Sb.refl _ _ _))
                have hz' : ¬ (((a : Int) + b) / 2 < (((a : Int) + b) / 2 + m - c : Int) ∧ (((a : Int) + b) / 2 + m - c : Int) < b) := by omega
                by_cases hy : ((a : Int) + b) / 2 < (((a : Int) + b) / 2 + m - c : Int)
                · have hx : ¬ (((a : Int) + b) / 2 + m - c : Int) < b := by omega
                  (go_wp2_with fail) <;> (go_end0; exact ⟨rfl, _, H2.out, G2.out, RB.out.trans M4.out.2, M4.out.1⟩)
                · (go_wp2_with fail) <;> (go_end0; exact ⟨rfl, _, H2.out, G2.out, RB.out.trans M4.out.2, M4.out.1⟩)
            · skip
              have T3 : Hid (Srt lt (rot s c m e) mid e) := Lib.hid (fun p q h1 h2 h3 => by rw [Z1.out.o p (by omega), Z1.out.o q (by omega)]; exact S3.out p q h1 h2 h3)
              have T4 : Hid (Srt lt (rot s c m e) e b) := Lib.hid (fun p q h1 h2 h3 => by rw [Z1.out.o p (by omega), Z1.out.o q (by omega)]; exact S4.out p q h1 h2 h3)
              have TW : Hid (Low (rot s c m e) mid e b) := Lib.hid (fun p q h1 h2 h3 h4 => by rw [Z1.out.o p (by omega), Z1.out.o q (by omega)]; exact W2.out p q h1 h2 h3 h4)
              by_cases hz : mid < e ∧ e < b
              · obtain ⟨z1, z2⟩ := hz
                have z1' : ((a : Int) + b) / 2 < (e : Int) := by omega
                have HM2 := Lib.hid (fun u hu => HM'.out (rot s c m e) mid e b u (by omega) z1 z2 h3 hu G2.out T3.out T4.out TW.out)
                rw [em.out, ee.out] at HM2
                rw [ee.out] at z1'
                (go_wp2_with fail) <;> (
                refine (HM2.out _ H2.out).mono ?_
                rintro e' w3 ⟨rfl, t2, h4, g4, b4, s4⟩
                have H4 := Lib.hid h4
                have M4 := Lib.hid (merged (t := rot s c m e) (by omega) (by omega) X.out Z0.out Z1.out s4 b4)
                have G4 := Lib.hid g4
                clear h4 g4 b4 s4
                (go_wp2_with fail) <;> (go_end0; exact ⟨rfl, t2, H4.out, G4.out, RB.out.trans M4.out.2, M4.out.1⟩))
              · have Z : Hid (Srt lt (rot s c m e) mid b) := Lib.hid (by
                  by_cases q : e = mid
                  · rw [← q]; exact T4.out
                  · have q2 : e = b := by omega
                    rw [← q2]; exact T3.out)
                have M4 := Lib.hid (merged (t := rot s c m e) (t1 := rot s c m e) (t2 := rot s c m e) (by omega) (by omega) X.out Z0.out Z1.out Z.out (Sb.refl _ _ _))
                have hz' : ¬ (((a : Int) + b) / 2 < (((a : Int) + b) / 2 + m - c : Int) ∧ (((a : Int) + b) / 2 + m - c : Int) < b) := by omega
                by_cases hy : ((a : Int) + b) / 2 < (((a : Int) + b) / 2 + m - c : Int)
                · have hx : ¬ (((a : Int) + b) / 2 + m - c : Int) < b := by omega
                  (go_wp2_with fail) <;> (go_end0; exact ⟨rfl, _, H2.out, G2.out, RB.out.trans M4.out.2, M4.out.1⟩)
                · (go_wp2_with fail) <;> (go_end0; exact ⟨rfl, _, H2.out, G2.out, RB.out.trans M4.out.2, M4.out.1⟩)
        · skip
          by_cases hy : a < c ∧ c < mid
          · obtain ⟨y1, y2⟩ := hy
            have y2' : (c : Int) < ((a : Int) + b) / 2 := by omega
            have HM1 := Lib.hid (fun u hu => HM'.out (rot s c m e) a c mid u (by omega) y1 y2 (by omega) hu G2.out S1.out S2.out W1.out)
            rw [em.out] at HM1
            go_wp2_with fail
            refine (HM1.out _ H2.out).mono ?_
            rintro e' w2 ⟨rfl, t1, h3', g3, b3, s3⟩
            have H3 := Lib.hid h3'
            have G3 := Lib.hid g3
            have B3 := Lib.hid b3
            have S3' := Lib.hid s3
            clear h3' g3 b3 s3
            have T3 : Hid (Srt lt (t1) mid e) := Lib.hid (fun p q h1 h2 h3 => by rw [B3.out.o p (by omega), B3.out.o q (by omega)]; exact S3.out p q h1 h2 h3)
            have T4 : Hid (Srt lt (t1) e b) := Lib.hid (fun p q h1 h2 h3 => by rw [B3.out.o p (by omega), B3.out.o q (by omega)]; exact S4.out p q h1 h2 h3)
            have TW : Hid (Low (t1) mid e b) := Lib.hid (fun p q h1 h2 h3 h4 => by rw [B3.out.o p (by omega), B3.out.o q (by omega)]; exact W2.out p q h1 h2 h3 h4)
            by_cases hz : mid < e ∧ e < b
            · obtain ⟨z1, z2⟩ := hz
              have z1' : ((a : Int) + b) / 2 < (e : Int) := by omega
              have HM2 := Lib.hid (fun u hu => HM'.out (t1) mid e b u (by omega) z1 z2 h3 hu G3.out T3.out T4.out TW.out)
              rw [em.out, ee.out] at HM2
              rw [ee.out] at z1'
              (go_wp2_with fail) <;> (
              refine (HM2.out _ H3.out).mono ?_
              rintro e' w3 ⟨rfl, t2, h4, g4, b4, s4⟩
              have H4 := Lib.hid h4
              have M4 := Lib.hid (merged (t := rot s c m e) (by omega) (by omega) X.out S3'.out B3.out s4 b4)
              have G4 := Lib.hid g4
              clear h4 g4 b4 s4
              (go_wp2_with fail) <;> (go_end0; exact ⟨rfl, t2, H4.out, G4.out, RB.out.trans M4.out.2, M4.out.1⟩))
            · have Z : Hid (Srt lt (t1) mid b) := Lib.hid (by
                by_cases q : e = mid
                · rw [← q]; exact T4.out
                · have q2 : e = b := by omega
                  rw [← q2]; exact T3.out)
              have M4 := Lib.hid (merged (t := rot s c m e) (t1 := t1) (t2 := t1) (by omega) (by omega) X.out S3'.out B3.out Z.out (Sb.refl _ _ _))
              have hz' : ¬ (((a : Int) + b) / 2 < (((a : Int) + b) / 2 + m - c : Int) ∧ (((a : Int) + b) / 2 + m - c : Int) < b) := by omega
              by_cases hy : ((a : Int) + b) / 2 < (((a : Int) + b) / 2 + m - c : Int)
              · have hx : ¬ (((a : Int) + b) / 2 + m - c : Int) < b := by omega
                (go_wp2_with fail) <;> (go_end0; exact ⟨rfl, _, H3.out, G3.out, RB.out.trans M4.out.2, M4.out.1⟩)
              · (go_wp2_with fail) <;> (go_end0; exact ⟨rfl, _, H3.out, G3.out, RB.out.trans M4.out.2, M4.out.1⟩)
          · have Z0 : Hid (Srt lt (rot s c m e) a mid) := Lib.hid (by
              by_cases q : c = a
              · rw [← q]; exact S2.out
              · have q2 : c = mid := by omega
                rw [← q2]; exact S1.out)
            have Z1 : Hid (Sb (rot s c m e) (rot s c m e) a mid) := Lib.hid (Sb.refl _ _ _)
            have hy' : ¬ ((a : Int) < c ∧ (c : Int) < ((a : Int) + b) / 2) := by omega
            by_cases hx : a < c
            · have hx' : ¬ (c : Int) < ((a : Int) + b) / 2 := by omega
              have T3 : Hid (Srt lt (rot s c m e) mid e) := Lib.hid (fun p q h1 h2 h3 => by rw [Z1.out.o p (by omega), Z1.out.o q (by omega)]; exact S3.out p q h1 h2 h3)
              have T4 : Hid (Srt lt (rot s c m e) e b) := Lib.hid (fun p q h1 h2 h3 => by rw [Z1.out.o p (by omega), Z1.out.o q (by omega)]; exact S4.out p q h1 h2 h3)
              have TW : Hid (Low (rot s c m e) mid e b) := Lib.hid (fun p q h1 h2 h3 h4 => by rw [Z1.out.o p (by omega), Z1.out.o q (by omega)]; exact W2.out p q h1 h2 h3 h4)
              by_cases hz : mid < e ∧ e < b
              · obtain ⟨z1, z2⟩ := hz
                have z1' : ((a : Int) + b) / 2 < (e : Int) := by omega
                have HM2 := Lib.hid (fun u hu => HM'.out (rot s c m e) mid e b u (by omega) z1 z2 h3 hu G2.out T3.out T4.out TW.out)
                rw [em.out, ee.out] at HM2
                rw [ee.out] at z1'
                (go_wp2_with fail) <;> (
                refine (HM2.out _ H2.out).mono ?_
                rintro e' w3 ⟨rfl, t2, h4, g4, b4, s4⟩
                have H4 := Lib.hid h4
                have M4 := Lib.hid (merged (t := rot s c m e) (by omega) (by omega) X.out Z0.out Z1.out s4 b4)
                have G4 := Lib.hid g4
                clear h4 g4 b4 s4
                (go_wp2_with fail) <;> (go_end0; exact ⟨rfl, t2, H4.out, G4.out, RB.out.trans M4.out.2, M4.out.1⟩))
              · have Z : Hid (Srt lt (rot s c m e) mid b) := Lib.hid (by
                  by_cases q : e = mid
                  · rw [← q]; exact T4.out
                  · have q2 : e = b := by omega
                    rw [← q2]; exact T3.out)
                have M4 := Lib.hid (merged (t := rot s c m e) (t1 := rot s c m e) (t2 := rot s c m e) (by omega) (by omega) X.out Z0.out Z1.out Z.out (Sb.refl _ _ _))
                have hz' : ¬ (((a : Int) + b) / 2 < (((a : Int) + b) / 2 + m - c : Int) ∧ (((a : Int) + b) / 2 + m - c : Int) < b) := by omega
                by_cases hy : ((a : Int) + b) / 2 < (((a : Int) + b) / 2 + m - c : Int)
                · have hx : ¬ (((a : Int) + b) / 2 + m - c : Int) < b := by omega
                  (go_wp2_with fail) <;> (go_end0; exact ⟨rfl, _, H2.out, G2.out, RB.out.trans M4.out.2, M4.out.1⟩)
                · (go_wp2_with fail) <;> (go_end0; exact ⟨rfl, _, H2.out, G2.out, RB.out.trans M4.out.2, M4.out.1⟩)
            · skip
              have T3 : Hid (Srt lt (rot s c m e) mid e) := Lib.hid (fun p q h1 h2 h3 => by rw [Z1.out.o p (by omega), Z1.out.o q (by omega)]; exact S3.out p q h1 h2 h3)
              have T4 : Hid (Srt lt (rot s c m e) e b) := Lib.hid (fun p q h1 h2 h3 => by rw [Z1.out.o p (by omega), Z1.out.o q (by omega)]; exact S4.out p q h1 h2 h3)
              have TW : Hid (Low (rot s c m e) mid e b) := Lib.hid (fun p q h1 h2 h3 h4 => by rw [Z1.out.o p (by omega), Z1.out.o q (by omega)]; exact W2.out p q h1 h2 h3 h4)
              by_cases hz : mid < e ∧ e < b
              · obtain ⟨z1, z2⟩ := hz
                have z1' : ((a : Int) + b) / 2 < (e : Int) := by omega
                have HM2 := Lib.hid (fun u hu => HM'.out (rot s c m e) mid e b u (by omega) z1 z2 h3 hu G2.out T3.out T4.out TW.out)
                rw [em.out, ee.out] at HM2
                rw [ee.out] at z1'
                (go_wp2_with fail) <;> (
                refine (HM2.out _ H2.out).mono ?_
                rintro e' w3 ⟨rfl, t2, h4, g4, b4, s4⟩
                have H4 := Lib.hid h4
                have M4 := Lib.hid (merged (t := rot s c m e) (by omega) (by omega) X.out Z0.out Z1.out s4 b4)
                have G4 := Lib.hid g4
                clear h4 g4 b4 s4
                (go_wp2_with fail) <;> (go_end0; exact ⟨rfl, t2, H4.out, G4.out, RB.out.trans M4.out.2, M4.out.1⟩))
              · have Z : Hid (Srt lt (rot s c m e) mid b) := Lib.hid (by
                  by_cases q : e = mid
                  · rw [← q]; exact T4.out
                  · have q2 : e = b := by omega
                    rw [← q2]; exact T3.out)
                have M4 := Lib.hid (merged (t := rot s c m e) (t1 := rot s c m e) (t2 := rot s c m e) (by omega) (by omega) X.out Z0.out Z1.out Z.out (Sb.refl _ _ _))
                have hz' : ¬ (((a : Int) + b) / 2 < (((a : Int) + b) / 2 + m - c : Int) ∧ (((a : Int) + b) / 2 + m - c : Int) < b) := by omega
                by_cases hy : ((a : Int) + b) / 2 < (((a : Int) + b) / 2 + m - c : Int)
                · have hx : ¬ (((a : Int) + b) / 2 + m - c : Int) < b := by omega
                  (go_wp2_with fail) <;> (go_end0; exact ⟨rfl, _, H2.out, G2.out, RB.out.trans M4.out.2, M4.out.1⟩)
                · (go_wp2_with fail) <;> (go_end0; exact ⟨rfl, _, H2.out, G2.out, RB.out.trans M4.out.2, M4.out.1⟩)
end
end Go.Proofs.Ytomoaolomddidaa
