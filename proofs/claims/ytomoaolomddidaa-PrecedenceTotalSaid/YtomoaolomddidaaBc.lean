/- Go's stable sort (sort.Stable) over an interface whose methods compare and swap two places: walks, whatever lies behind. -/
import Derived.Test.YtomoaolomddidaaBb
namespace Go.Proofs.Ytomoaolomddidaa
open Go.RowKit

/-- A list that can be sorted: what its methods answer and do. -/
structure SI (n : Nat) (lt : Nat → Nat → Bool) (T : TypeId) (v : Value) (fL fS : FuncId) (St : (Nat → Nat) → World → Prop) : Prop where
  bd : n ≤ 1000000
  sw : SW lt
  mL : ∀ (j : Nat) (u : World), (method (j + 1) T v "Less").run Try.prog u = .ok (fL, v) u
  mS : ∀ (j : Nat) (u : World), (method (j + 1) T v "Swap").run Try.prog u = .ok (fS, v) u
  eL : ∀ (a : Array Value) (u : World), (callFunc fL a).run Try.prog u = .ok (.enter fL a) u
  eS : ∀ (a : Array Value) (u : World), (callFunc fS a).run Try.prog u = .ok (.enter fS a) u
  L : ∀ (s : Nat → Nat) (i j : Nat) (u : World), i < n → j < n → St s u → Calls Try.prog fL #[v, .int .i64 i, .int .i64 j] u fun e w' => e = .returned (.bool (lt (s i) (s j))) ∧ St s w'
  S : ∀ (s : Nat → Nat) (i j : Nat) (u : World), i < n → j < n → St s u → Calls Try.prog fS #[v, .int .i64 i, .int .i64 j] u fun e w' => e = .returned (.tuple #[]) ∧ St (swp s i j) w'
section
variable {n : Nat} {lt : Nat → Nat → Bool} {T : TypeId} {v : Value} {fL fS : FuncId} {St : (Nat → Nat) → World → Prop}
theorem sort_swr (I : SI n lt T v fL fS St) (s : Nat → Nat) (a b c : Nat) (W : World) (h1 : a + c ≤ b) (h2 : b + c ≤ n) (hs : St s W) (g : Gd n s) :
    Calls Try.prog 21 #[.iface T v, .int .i64 a, .int .i64 b, .int .i64 c] W fun e w' => e = .returned (.tuple #[]) ∧ St (swr s a b c) w' ∧ Gd n (swr s a b c) := by
  have mS := I.mS
  have eS := I.eS
  have hn := I.bd
  have HS := Lib.hid I.S
  have Hs := Lib.hid hs
  have Hg := Lib.hid g
  clear hs g I
  go_enter Try.func21, Try.ntmps21
  go_wp2_with fail
  go_loopw [8] (fun i wr => ∃ k : Nat, k ≤ c ∧ i = .int .i64 k ∧ St (swr s a b k) wr ∧ Gd n (swr s a b k)) (fun i _ => c - (intOf i).toNat)
  case atStart => exact ⟨0, Nat.zero_le _, rfl, by rw [swr_zero]; exact Hs.out, by rw [swr_zero]; exact Hg.out⟩
  case round =>
    obtain ⟨k, hk, rfl, h, g⟩ := hrel
    have H := Lib.hid h
    have G := Lib.hid g
    clear h g
    by_cases hlt : k < c
    · have HS1 := Lib.hid (fun u hu => HS.out (swr s a b k) (a + k) (b + k) u (by omega) (by omega) hu)
      have X := Lib.hid (swr_step s (a := a) (b := b) (t := k) (by omega))
      have Y := Lib.hid (G.out.swp (i := a + k) (j := b + k) (by omega) (by omega))
      rw [Int.natCast_add, Int.natCast_add] at HS1
      go_wp2_with fail
      refine (HS1.out _ H.out).mono ?_
      rintro e w1 ⟨rfl, h1⟩
      have H1 := Lib.hid h1
      clear h1
      go_wp2_with fail
      go_roundw
      case rel => exact ⟨k + 1, by omega, by go_num, by rw [← X.out]; exact H1.out, by rw [← X.out]; exact Y.out⟩
      case measure => simp [intOf]; omega
    · obtain rfl : k = c := by omega
      go_wp2_with fail
      go_end0
      exact ⟨rfl, H.out, G.out⟩
theorem vi {x : Int} {k : Nat} (h : x = k) : Value.int .i64 x = .int .i64 k := by rw [h]
theorem sort_rot (I : SI n lt T v fL fS St) (s : Nat → Nat) (a m b : Nat) (W : World) (h1 : a < m) (h2 : m < b) (h3 : b ≤ n) (hs : St s W) (g : Gd n s) :
    Calls Try.prog 20 #[.iface T v, .int .i64 a, .int .i64 m, .int .i64 b] W fun e w' => e = .returned (.tuple #[]) ∧ St (rot s a m b) w' ∧ Gd n (rot s a m b) := by
  have hn := I.bd
  have HR := Lib.hid (fun s a b c u h1 h2 hs g => sort_swr I s a b c u h1 h2 hs g)
  have Hs := Lib.hid hs
  have Hg := Lib.hid g
  clear hs g I
  go_enter Try.func20, Try.ntmps20
  go_wp2_with fail
  go_loopw [8, 9] (fun iv jv wr => ∃ (i j : Nat) (t : Nat → Nat), iv = .int .i64 i ∧ jv = .int .i64 j ∧ 0 < i ∧ 0 < j ∧ i ≤ m ∧ m + j ≤ n ∧ Hid (rot t (m - i) m (m + j) = rot s a m b) ∧ St t wr ∧ Gd n t) (fun iv jv _ => (intOf iv).toNat + (intOf jv).toNat)
  case atStart => exact ⟨m - a, b - m, s, vi (by omega), vi (by omega), by omega, by omega, by omega, by omega, Lib.hid (by rw [show m - (m - a) = a by omega, show m + (b - m) = b by omega]), Hs.out, Hg.out⟩
  case round =>
    obtain ⟨i, j, t, rfl, rfl, i0, j0, im, jn, hr, h, g⟩ := hrel
    have H := Lib.hid h
    have G := Lib.hid g
    clear h g
    rcases Nat.lt_trichotomy i j with hlt | hlt | hlt
    · have HR1 := Lib.hid (fun u hu => HR.out t (m - i) (m + j - i) i u (by omega) (by omega) hu G.out)
      rw [show ((m - i : Nat) : Int) = (m : Int) - i by omega, show ((m + j - i : Nat) : Int) = (m : Int) + j - i by omega] at HR1
      have X := Lib.hid (rot_lt t (m := m) hlt im)
      go_wp2_with fail
      refine (HR1.out _ H.out).mono ?_
      rintro e w1 ⟨rfl, h1, g1⟩
      have H1 := Lib.hid h1
      have G1 := Lib.hid g1
      clear h1 g1
      go_wp2_with fail
      go_roundw
      case rel => exact ⟨i, j - i, _, rfl, vi (by omega), by omega, by omega, by omega, by omega, Lib.hid (X.out.trans hr.out), H1.out, G1.out⟩
      case measure => simp [intOf]; omega
    · subst hlt
      have HR1 := Lib.hid (fun u hu => HR.out t (m - i) m i u (by omega) (by omega) hu G.out)
      rw [show ((m - i : Nat) : Int) = (m : Int) - i by omega] at HR1
      have X := Lib.hid (rot_eq t (m := m) im)
      go_wp2_with fail
      refine (HR1.out _ H.out).mono ?_
      rintro e w1 ⟨rfl, h1, g1⟩
      have H1 := Lib.hid h1
      have G1 := Lib.hid g1
      clear h1 g1
      go_wp2_with fail
      go_end0
      exact ⟨rfl, by rw [← hr.out, ← X.out]; exact H1.out, by rw [← hr.out, ← X.out]; exact G1.out⟩
    · have HR1 := Lib.hid (fun u hu => HR.out t (m - i) m j u (by omega) (by omega) hu G.out)
      rw [show ((m - i : Nat) : Int) = (m : Int) - i by omega] at HR1
      have X := Lib.hid (rot_gt t (m := m) hlt im)
      go_wp2_with fail
      refine (HR1.out _ H.out).mono ?_
      rintro e w1 ⟨rfl, h1, g1⟩
      have H1 := Lib.hid h1
      have G1 := Lib.hid g1
      clear h1 g1
      go_wp2_with fail
      go_roundw
      case rel => exact ⟨i - j, j, _, vi (by omega), rfl, by omega, by omega, by omega, by omega, Lib.hid (X.out.trans hr.out), H1.out, G1.out⟩
      case measure => simp [intOf]; omega
theorem sort_ins (I : SI n lt T v fL fS St) (s : Nat → Nat) (a b : Nat) (W : World) (h1 : a ≤ b) (h3 : b ≤ n) (hs : St s W) (g : Gd n s) (hi : ∀ k k', a ≤ k → k < k' → k' < b → s k < s k') :
    Calls Try.prog 18 #[.iface T v, .int .i64 a, .int .i64 b] W fun e w' => e = .returned (.tuple #[]) ∧ ∃ t, St t w' ∧ Gd n t ∧ Sb s t a b ∧ Srt lt t a b := by
  have hn := I.bd
  have mL := I.mL
  have mS := I.mS
  have eL := I.eL
  have eS := I.eS
  have HL := Lib.hid I.L
  have HS := Lib.hid I.S
  have SW := Lib.hid I.sw
  have Hs := Lib.hid hs
  have H0 := Lib.hid (InO.start (lt := lt) g hi)
  clear hs g I hi
  go_enter Try.func18, Try.ntmps18
  go_wp2_with fail
  go_loopw [6] (fun iv wr => ∃ (i : Nat) (t : Nat → Nat), iv = .int .i64 i ∧ a + 1 ≤ i ∧ (i = a + 1 ∨ i ≤ b) ∧ InO lt n s t a b i ∧ St t wr) (fun iv _ => b - (intOf iv).toNat)
  case atStart => exact ⟨a + 1, s, by go_num, Nat.le_refl _, .inl rfl, H0.out, Hs.out⟩
  case round =>
    obtain ⟨i, t, rfl, ai, ib, o, h⟩ := hrel
    have O := Lib.hid o
    have H := Lib.hid h
    clear o h
    by_cases hlt : i < b
    · go_wp2_with fail
      go_loopw [7] (fun jv wr => ∃ (j : Nat) (t' : Nat → Nat), jv = .int .i64 j ∧ InS lt n s t' a b i j ∧ St t' wr) (fun jv _ => (intOf jv).toNat)
      case atStart => exact ⟨i, t, rfl, O.out.in (by omega) hlt, H.out⟩
      case round =>
        obtain ⟨j, t', rfl, o, h⟩ := hrel
        have aj := o.aj
        have ji := o.ji
        have O := Lib.hid o
        have H := Lib.hid h
        clear o h
        by_cases hj : a < j
        · have HL1 := Lib.hid (fun u hu => HL.out t' j (j - 1) u (by omega) (by omega) hu)
          rw [show ((j - 1 : Nat) : Int) = (j : Int) - 1 by omega] at HL1
          go_wp2_with fail
          refine (HL1.out _ H.out).mono ?_
          rintro e w1 ⟨rfl, h1⟩
          have H1 := Lib.hid h1
          clear h1
          cases hl : lt (t' j) (t' (j - 1))
          · have Z := Lib.hid (O.out.out SW.out (.inr hl))
            go_wp2_with fail
            go_roundw
            case rel => exact ⟨i + 1, t', by go_num, by omega, by omega, Z.out, H1.out⟩
            case measure => simp [intOf]; omega
          · have Z := Lib.hid (O.out.step hj (by omega) hlt hl)
            have HS1 := Lib.hid (fun u hu => HS.out t' j (j - 1) u (by omega) (by omega) hu)
            rw [show ((j - 1 : Nat) : Int) = (j : Int) - 1 by omega] at HS1
            go_wp2_with fail
            refine (HS1.out _ H1.out).mono ?_
            rintro e w2 ⟨rfl, h2⟩
            have H2 := Lib.hid h2
            clear h2
            go_wp2_with fail
            go_roundw
            case rel => exact ⟨j - 1, _, vi (by omega), Z.out, H2.out⟩
            case measure => simp [intOf]; omega
        · have Z := Lib.hid (O.out.out SW.out (.inl (by omega)))
          go_wp2_with fail
          go_roundw
          case rel => exact ⟨i + 1, t', by go_num, by omega, by omega, Z.out, H.out⟩
          case measure => simp [intOf]; omega
    · have Z : Srt lt t a b := fun p q h1 h2 h3 => O.out.srt p q h1 h2 (by omega)
      go_wp2_with fail
      go_end0
      exact ⟨rfl, t, H.out, O.out.g, O.out.sb, Z⟩
end
end Go.Proofs.Ytomoaolomddidaa
