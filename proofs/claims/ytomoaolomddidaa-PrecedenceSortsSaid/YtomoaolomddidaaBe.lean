/- Go's stable sort: symMerge whatever its ranges, stable, Stable. -/
import Derived.Test.YtomoaolomddidaaBd
namespace Go.Proofs.Ytomoaolomddidaa
open Go.RowKit
section
variable {n : Nat} {lt : Nat → Nat → Bool} {T : TypeId} {v : Value} {fL fS : FuncId} {St : (Nat → Nat) → World → Prop}
theorem sort_sym (I : SI n lt T v fL fS St) : ∀ (N : Nat) (s : Nat → Nat) (a m b : Nat) (W : World), b - a ≤ N → a < m → m < b → b ≤ n → St s W → Gd n s → Srt lt s a m → Srt lt s m b → Low s a m b →
    Calls Try.prog 19 #[.iface T v, .int .i64 a, .int .i64 m, .int .i64 b] W fun e w' => e = .returned (.tuple #[]) ∧ ∃ t, St t w' ∧ Gd n t ∧ Sb s t a b ∧ Srt lt t a b := by
  intro N
  induction N with
  | zero => intro s a m b W h0 h1 h2; omega
  | succ N ih =>
    intro s a m b W h0 h1 h2 h3 hs g L R lo
    by_cases e1 : m = a + 1
    · exact sort_sym1 I s a m b W e1 h2 h3 hs g R lo
    · by_cases e2 : b = m + 1
      · exact sort_sym2 I s a m b W (by omega) e2 h3 hs g L lo
      · have HM := fun (s : Nat → Nat) (a' m b' : Nat) (W : World) (hl : b' - a' < b - a) => ih s a' m b' W (by omega)
        by_cases e3 : (a + b) / 2 < m
        · exact sort_sym3 I s a m b ((a + b) / 2) W (by omega) (by omega) (by omega) (by omega) h3 e3 hs g L R lo HM
        · exact sort_sym4 I s a m b ((a + b) / 2) W (by omega) (by omega) (by omega) (by omega) h3 (by omega) hs g L R lo HM
set_option maxRecDepth 100000 in
set_option maxHeartbeats 1000000 in
theorem sort_stable (I : SI n lt T v fL fS St) (W : World) (hs : St (fun i => i) W) :
    Calls Try.prog 17 #[.iface T v, .int .i64 n] W fun e w' => e = .returned (.tuple #[]) ∧ ∃ t, St t w' ∧ Gd n t ∧ Srt lt t 0 n := by
  have hn := I.bd
  have HI := Lib.hid (fun s a b u h1 h3 hs g hi => sort_ins I s a b u h1 h3 hs g hi)
  have HM := Lib.hid (fun s a m b u => sort_sym I (b - a) s a m b u (Nat.le_refl _))
  have Hs := Lib.hid hs
  clear hs I
  go_enter Try.func17, Try.ntmps17
  go_wp2_with fail
  go_loopw [5, 6] (fun av bv wr => ∃ (q : Nat) (t : Nat → Nat), av = .int .i64 ((20 * q : Nat) : Int) ∧ bv = .int .i64 ((20 * q + 20 : Nat) : Int) ∧ 20 * q ≤ n ∧ Hid (BksA lt n t 20 (20 * q)) ∧ St t wr ∧ Gd n t) (fun av _ _ => n - (intOf av).toNat)
  case atStart => exact ⟨0, _, vi (by omega), vi (by omega), by omega, Lib.hid BksA.start, Hs.out, Gd.id n⟩
  case round =>
    obtain ⟨q, t, rfl, rfl, qn, hb, h, g⟩ := hrel
    have H := Lib.hid h
    have G := Lib.hid g
    clear h g
    by_cases hlt : 20 * q + 20 ≤ n
    · have HI1 := Lib.hid (fun u hu => HI.out t (20 * q) (20 * q + 20) u (by omega) hlt hu G.out (fun k k' h1 h2 h3 => hb.out.inc k k' h1 h2 h3))
      go_wp2_with fail
      refine (HI1.out _ H.out).mono ?_
      rintro e w1 ⟨rfl, t1, h1, g1, b1, s1⟩
      have H1 := Lib.hid h1
      have G1 := Lib.hid g1
      have Z := Lib.hid (hb.out.next (by omega) (q := q) rfl (by omega) (by omega) hlt b1 s1)
      clear h1 g1 b1 s1
      go_wp2_with fail
      go_roundw
      case rel => exact ⟨q + 1, t1, vi (by omega), vi (by omega), by omega, Lib.hid (by have := Z.out; rwa [show 20 * q + 20 = 20 * (q + 1) by omega] at this), H1.out, G1.out⟩
      case measure => simp [intOf]; omega
    · have HI1 := Lib.hid (fun u hu => HI.out t (20 * q) n u qn (Nat.le_refl _) hu G.out (fun k k' h1 h2 h3 => hb.out.inc k k' h1 h2 h3))
      go_wp2_with fail
      refine (HI1.out _ H.out).mono ?_
      rintro e w1 ⟨rfl, t1, h1, g1, b1, s1⟩
      have H1 := Lib.hid h1
      have G1 := Lib.hid g1
      have Z := Lib.hid ((hb.out.next (by omega) (q := q) rfl qn (by omega) (Nat.le_refl _) b1 s1).fin)
      clear h1 g1 b1 s1 hb H G
      go_wp2_with fail
      go_loopw [4] (fun zv wr => ∃ (c : Nat) (t : Nat → Nat), zv = .int .i64 (c : Int) ∧ 0 < c ∧ c ≤ 2 * n + 20 ∧ Hid (Bks lt n t c) ∧ St t wr ∧ Gd n t) (fun zv _ => n - (intOf zv).toNat)
      case atStart => exact ⟨20, t1, vi (by omega), by omega, by omega, Z, H1.out, G1.out⟩
      case round =>
        obtain ⟨c, t, rfl, c0, cn, hb, h, g⟩ := hrel
        have H := Lib.hid h
        have G := Lib.hid g
        clear h g
        by_cases hc : c < n
        · go_wp2_with fail
          go_loopw [5, 6] (fun av bv wr => ∃ (q p : Nat) (t : Nat → Nat), av = .int .i64 (p : Int) ∧ bv = .int .i64 ((p + 2 * c : Nat) : Int) ∧ Hid (p = 2 * c * q) ∧ p ≤ n ∧ Hid (BksM lt n t c p) ∧ St t wr ∧ Gd n t) (fun av _ _ => n - (intOf av).toNat)
          case atStart => exact ⟨0, 0, t, vi (by omega), vi (by omega), Lib.hid (by rw [Nat.mul_zero]), by omega, Lib.hid hb.out.start, H.out, G.out⟩
          case round =>
            obtain ⟨q, p, t, rfl, rfl, hp, pn, hb, h, g⟩ := hrel
            have H := Lib.hid h
            have G := Lib.hid g
            clear h g
            by_cases hlt : p + 2 * c ≤ n
            · have HM1 := Lib.hid (fun u hu => HM.out t p (p + c) (p + 2 * c) u (by omega) (by omega) hlt hu G.out (hb.out.left hp.out (by omega)) (hb.out.right hp.out (Nat.le_refl _) hlt) (hb.out.low hp.out (Nat.le_refl _) hlt))
              rw [show ((p + c : Nat) : Int) = (p : Int) + c by omega] at HM1
              go_wp2_with fail
              refine (HM1.out _ H.out).mono ?_
              rintro e w1 ⟨rfl, t1, h1, g1, b1, s1⟩
              have H1 := Lib.hid h1
              have G1 := Lib.hid g1
              have Z := Lib.hid (hb.out.next c0 hp.out (by omega) (Nat.le_refl _) hlt b1 s1)
              clear h1 g1 b1 s1
              go_wp2_with fail
              go_roundw
              case rel => exact ⟨q + 1, p + 2 * c, t1, vi (by omega), vi (by omega), Lib.hid (by rw [hp.out, Nat.mul_succ]), hlt, Z, H1.out, G1.out⟩
              case measure => simp [intOf]; omega
            · by_cases hm : p + c < n
              · have HM1 := Lib.hid (fun u hu => HM.out t p (p + c) n u (by omega) hm (Nat.le_refl _) hu G.out (hb.out.left hp.out (by omega)) (hb.out.right hp.out (by omega) (Nat.le_refl _)) (hb.out.low hp.out (by omega) (Nat.le_refl _)))
                rw [show ((p + c : Nat) : Int) = (p : Int) + c by omega] at HM1
                go_wp2_with fail
                refine (HM1.out _ H.out).mono ?_
                rintro e w1 ⟨rfl, t1, h1, g1, b1, s1⟩
                have H1 := Lib.hid h1
                have G1 := Lib.hid g1
                have Z := Lib.hid ((hb.out.next c0 hp.out pn (by omega) (Nat.le_refl _) b1 s1).fin)
                clear h1 g1 b1 s1
                go_wp2_with fail
                go_roundw
                case rel => exact ⟨2 * c, t1, vi (by omega), by omega, by omega, Z, H1.out, G1.out⟩
                case measure => simp [intOf]; omega
              · have Z := Lib.hid (hb.out.short c0 hp.out (by omega))
                go_wp2_with fail
                go_roundw
                case rel => exact ⟨2 * c, t, vi (by omega), by omega, by omega, Z, H.out, G.out⟩
                case measure => simp [intOf]; omega
        · have Z := Lib.hid (hb.out.srt0 (by omega))
          go_wp2_with fail
          go_end0
          exact ⟨rfl, t, H.out, G.out, Z.out⟩
theorem sort_Stable (I : SI n lt T v fL fS St) (fN : FuncId) (W : World) (hs : St (fun i => i) W)
    (mN : ∀ (j : Nat) (u : World), (method (j + 1) T v "Len").run Try.prog u = .ok (fN, v) u)
    (eN : ∀ (a : Array Value) (u : World), (callFunc fN a).run Try.prog u = .ok (.enter fN a) u)
    (HN : ∀ u, St (fun i => i) u → Calls Try.prog fN #[v] u fun e w' => e = .returned (.int .i64 n) ∧ St (fun i => i) w') :
    Calls Try.prog 16 #[.iface T v] W fun e w' => e = .returned (.tuple #[]) ∧ ∃ t, St t w' ∧ Gd n t ∧ Srt lt t 0 n := by
  have H := Lib.hid (fun u hu => sort_stable I u hu)
  have Hs := Lib.hid hs
  clear I hs
  go_enter Try.func16, Try.ntmps16
  go_wp2_with fail
  refine (HN _ Hs.out).mono ?_
  rintro e w1 ⟨rfl, h1⟩
  have H1 := Lib.hid h1
  clear h1
  go_wp2_with fail
  refine (H.out _ H1.out).mono ?_
  rintro e w2 ⟨rfl, t, h2, g2, s2⟩
  go_wp2_with fail
  go_end0
  exact ⟨rfl, t, h2, g2, s2⟩
end
end Go.Proofs.Ytomoaolomddidaa
