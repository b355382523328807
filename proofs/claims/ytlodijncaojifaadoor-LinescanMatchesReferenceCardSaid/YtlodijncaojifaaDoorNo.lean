/- The reference of package linescan: digit, letter, fail, prefix. -/
import Derived.Test.YtlodijncaojifaaDoorNn
namespace Go.Proofs.YtlodijncaojifaaDoor
open Go.RowKit

abbrev sv (S : ByteArray) (k : Nat) (bad : Bool) : Value := .agg #[.string S, .int .i64 k, .bool bad]
abbrev stO (S : ByteArray) (k : Nat) (bad : Bool) : Obj := .cells #[.string S, .int .i64 k, .bool bad] 27
abbrev stZ : Obj := .cells #[.string ⟨#[]⟩, .int .i64 0, .bool false] 27
theorem st_facts {w : World} {b t : Nat} {a0 a1 a2 : Value} (h : w.heap[b]? = some (.cells #[a0, a1, a2] t (0, 0))) :
    w.cell? ⟨b, 0, none⟩ = some a0 ∧ w.cell? ⟨b, 1, none⟩ = some a1 ∧ w.cell? ⟨b, 2, none⟩ = some a2 ∧ w.frozen? ⟨b, 0, none⟩ = false ∧ w.frozen? ⟨b, 1, none⟩ = false ∧ w.frozen? ⟨b, 2, none⟩ = false ∧ b < w.heap.size :=
  ⟨by rw [cell_of_row w b 0 _ _ _ h]; rfl, by rw [cell_of_row w b 1 _ _ _ h]; rfl, by rw [cell_of_row w b 2 _ _ _ h]; rfl, frozen_of_row w b 0 _ _ h, frozen_of_row w b 1 _ _ h, frozen_of_row w b 2 _ _ h, row_lt h⟩
theorem rdg_any (S : ByteArray) (i : Nat) (w : World) : Calls Tryd.prog 32 #[.string S, .int .i64 i] w fun e w' => e = .returned (.bool (dg S i)) ∧ w = w' := by
  unfold dg
  by_cases h1 : i < S.size
  · have d1 : decide (i < S.size) = true := dtrue h1
    have x1 := idx_str S i (by omega) (by omega)
    rw [Int.toNat_natCast] at x1
    rw [d1, Bool.true_and]
    generalize bt S i = x at *
    cases h2 : decide (48 ≤ x)
    · go_enter Tryd.func32, Tryd.ntmps32
      go_wp2
      go_ret
      exact ⟨rfl, rfl⟩
    · cases h3 : decide (x ≤ 57)
      all_goals
        go_enter Tryd.func32, Tryd.ntmps32
        go_wp2
        go_ret
        exact ⟨rfl, rfl⟩
  · have d1 : decide (i < S.size) = false := dfalse h1
    rw [d1, Bool.false_and]
    go_enter Tryd.func32, Tryd.ntmps32
    go_wp2
    go_ret
    exact ⟨rfl, rfl⟩
theorem rlt_any (S : ByteArray) (i : Nat) (w : World) : Calls Tryd.prog 36 #[.string S, .int .i64 i] w fun e w' => e = .returned (.bool (lt S i)) ∧ w = w' := by
  unfold lt
  by_cases h1 : i < S.size
  · have d1 : decide (i < S.size) = true := dtrue h1
    have x1 := idx_str S i (by omega) (by omega)
    rw [Int.toNat_natCast] at x1
    rw [d1, Bool.true_and]
    generalize bt S i = x at *
    cases h2 : decide (97 ≤ x)
    · go_enter Tryd.func36, Tryd.ntmps36
      go_wp2
      go_ret
      exact ⟨rfl, rfl⟩
    · cases h3 : decide (x ≤ 122)
      all_goals
        go_enter Tryd.func36, Tryd.ntmps36
        go_wp2
        go_ret
        exact ⟨rfl, rfl⟩
  · have d1 : decide (i < S.size) = false := dfalse h1
    rw [d1, Bool.false_and]
    go_enter Tryd.func36, Tryd.ntmps36
    go_wp2
    go_ret
    exact ⟨rfl, rfl⟩
theorem rfa_any (S : ByteArray) (k at' : Nat) (bad : Bool) (w : World) : Calls Tryd.prog 28 #[sv S k bad, .int .i64 at'] w fun e w' => e = .returned (sv S at' true) ∧ Below w.heap.size w w' := by
  go_enter Tryd.func28, Tryd.ntmps28
  go_wp2
  exact bodyPost_ret (v := sv S at' true) (by simp [results, Tryd.results28, go_sem]) rfl ⟨rfl, al2 w _ _⟩
/-- A state written whole into a row of the call's own. -/
theorem st_put {w v : World} {R : Nat} {a0 a1 a2 : Value} {t : TypeId} (x y z : Value) (h : v.heap[R]? = some (.cells #[a0, a1, a2] t (0, 0))) (hb : Below w.heap.size w v) (hR : w.heap.size ≤ R) {u : World} (hu : u = ((v.setCell ⟨R, 0, none⟩ x).setCell ⟨R, 1, none⟩ y).setCell ⟨R, 2, none⟩ z) :
    u.cell? ⟨R, 0, none⟩ = some x ∧ u.cell? ⟨R, 1, none⟩ = some y ∧ u.cell? ⟨R, 2, none⟩ = some z ∧ Below w.heap.size w u := by
  obtain ⟨k0, k1, k2⟩ := three_set x y z h hu.symm
  exact ⟨k0, k1, k2, below_set3 hb hR x y z hu.symm⟩
/-! prefix -/
set_option maxHeartbeats 1000000 in
set_option maxRecDepth 100000 in
theorem rpf_any (S wd : ByteArray) (k : Nat) (hk : k ≤ S.size) (hs : S.size < big) (hw : wd.size < big) (w : World) : Calls Tryd.prog 27 #[.string S, .int .i64 k, .string wd] w fun e w' => e = .returned (.int .i64 (cm S k wd : Nat)) ∧ ∃ m, w' = w.drewN m := by
  have hs' : S.size < 4611686018427387904 := hs
  have hw' : wd.size < 4611686018427387904 := hw
  clear hs hw
  go_enter Tryd.func27, Tryd.ntmps27
  go_wp2_with fail
  go_loopw [7] (fun vn wr => ∃ n m : Nat, n ≤ wd.size ∧ vn = .int .i64 n ∧ wr = w.drewN m ∧ Hid (∀ j, j < n → k + j < S.size ∧ bt S (k + j) = bt wd j)) (fun vn _ => wd.size - (intOf vn).toNat)
  case atStart => exact ⟨0, 0, Nat.zero_le _, rfl, rfl, Lib.hid fun j hj => absurd hj (by omega)⟩
  case round =>
    obtain ⟨n, m, hn, rfl, rfl, HA⟩ := hrel
    by_cases h1 : n < wd.size
    · have d1 : decide (n < wd.size) = true := dtrue h1
      have wk : IntKind.i64.wrap ((k : Int) + (n : Int)) = (k : Int) + (n : Int) := by rw [IntKind.wrap_i64]; omega
      by_cases h2 : k + n < S.size
      · have d2 : decide ((k : Int) + (n : Int) < (S.size : Int)) = true := dtrue (by omega)
        have d2' : decide (k + n < S.size) = true := dtrue h2
        have x1 := idx_str S ((k : Int) + (n : Int)) (by omega) (by omega)
        rw [show ((k : Int) + (n : Int)).toNat = k + n by omega] at x1
        have x2 := idx_str wd n (by omega) (by omega)
        rw [Int.toNat_natCast] at x2
        have H2 := Lib.hid h2
        by_cases h3 : bt S (k + n) = bt wd n
        · have e3 : (bt S (k + n) == bt wd n) = true := beq_iff_eq.2 h3
          have H3 := Lib.hid h3
          clear h3 h2
          generalize bt S (k + n) = x at x1 e3
          generalize bt wd n = y at x2 e3
          go_wp2_with fail
          go_quiet (fail)
          go_wp2_with fail
          go_roundw
          case rel =>
            refine ⟨n + 1, m + nq, by omega, by go_num, rfl, Lib.hid fun j hj => ?_⟩
            by_cases q : j < n
            · exact HA.out j q
            · rw [show j = n by omega]; exact ⟨H2.out, H3.out⟩
          case measure => simp [intOf]; omega
        · have e3 : (bt S (k + n) == bt wd n) = false := beq_eq_false_iff_ne.2 h3
          have HE := Lib.hid (cm_eq hn HA.out (.inr fun g => h3 g.2))
          clear h3 h2
          generalize bt S (k + n) = x at x1 e3
          generalize bt wd n = y at x2 e3
          go_wp2_with fail
          go_quiet (fail)
          go_wp2_with fail
          go_ret
          exact ⟨by rw [HE.out]; rfl, _, dn_dn _ _ _⟩
      · have d2 : decide ((k : Int) + (n : Int) < (S.size : Int)) = false := dfalse (by omega)
        have d2' : decide (k + n < S.size) = false := dfalse h2
        have HE := Lib.hid (cm_eq hn HA.out (.inr fun g => h2 g.1))
        go_wp2_with fail
        go_quiet (fail)
        go_wp2_with fail
        go_ret
        exact ⟨by rw [HE.out]; rfl, _, dn_dn _ _ _⟩
    · have d1 : decide (n < wd.size) = false := dfalse h1
      have HE := Lib.hid (cm_eq hn HA.out (.inl (by omega)))
      go_wp2_with fail
      go_quiet (fail)
      go_wp2_with fail
      go_ret
      exact ⟨by rw [HE.out]; rfl, _, dn_dn _ _ _⟩
end Go.Proofs.YtlodijncaojifaaDoor
