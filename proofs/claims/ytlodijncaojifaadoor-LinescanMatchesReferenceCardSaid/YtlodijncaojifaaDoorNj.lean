/- Package linescan: continues, the closure of acceptWord; the library's IndexFunc and DeleteFunc over integers, for a predicate that leaves memory alone. -/
import Derived.Test.YtlodijncaojifaaDoorNi
import Derived.Test.YtlodijncaojifaaDoorKz
import Derived.Laws.IdiomCopy
import Derived.Lib.SliceRun
namespace Go.Proofs.YtlodijncaojifaaDoor
open Go.RowKit

theorem ctu_any {S wd : ByteArray} {b k n : Nat} {bad : Bool} {w : World} (h : w.heap[b]? = some (scO S k bad)) :
    Calls Tryd.prog 47 #[xp b, .string wd, .int .i64 n] w fun e w' => e = .returned (.bool (contB S k wd n)) ∧ ∃ m, w' = w.drewN m := by
  obtain ⟨c0, c1, c2, f0, f1, f2, hl⟩ := sc_facts h
  clear h
  unfold contB
  by_cases h1 : k < S.size
  · have d1 : decide (k < S.size) = true := dtrue h1
    have x1 := idx_str S k (by omega) (by omega)
    rw [Int.toNat_natCast] at x1
    by_cases h2 : n < wd.size
    · have d2 : decide (n < wd.size) = true := dtrue h2
      have x2 := idx_str wd n (by omega) (by omega)
      rw [Int.toNat_natCast] at x2
      rw [d1, d2, Bool.true_and, Bool.true_and]
      have e : decide (bt wd n = bt S k) = (bt wd n == bt S k) := by cases h : (bt wd n == bt S k) <;> simp_all
      rw [e]
      generalize bt wd n = x at *
      generalize bt S k = y at *
      have E := Lib.hid h1
      have E2 := Lib.hid h2
      go_enter Tryd.func47, Tryd.ntmps47
      go_wp2_with fail
      go_quiet (fail)
      go_wp2_with fail
      go_ret
      exact ⟨rfl, _, rfl⟩
    · have d2 : decide (n < wd.size) = false := dfalse h2
      rw [d1, d2, Bool.true_and, Bool.false_and]
      go_enter Tryd.func47, Tryd.ntmps47
      go_wp2_with fail
      go_quiet (fail)
      go_wp2_with fail
      go_ret
      exact ⟨rfl, _, rfl⟩
  · have d1 : decide (k < S.size) = false := dfalse h1
    rw [d1, Bool.false_and]
    go_enter Tryd.func47, Tryd.ntmps47
    go_wp2_with fail
    go_quiet (fail)
    go_wp2_with fail
    go_ret
    exact ⟨rfl, _, rfl⟩
theorem quiet_dn {P : Program} {f : FuncId} {args : Array Value} {w : World} {n : Nat} {v : Value}
    (h : Calls P f args (w.drewN n) fun e w' => e = .returned v ∧ ∃ m, w' = (w.drewN n).drewN m) : Calls P f args (w.drewN n) fun e w'' => e = .returned v ∧ ∃ m, w'' = w.drewN m :=
  h.mono fun _ _ ⟨he, m, hm⟩ => ⟨he, n + m, by rw [hm, dn_dn]⟩
/-- The closure: is the word with this index no longer possible? -/
theorem cloW_any {S : ByteArray} {b k n i p q r g cap : Nat} {bad : Bool} {ws : List ByteArray} {w : World} (h : w.heap[b]? = some (scO S k bad)) (hi : i < ws.length) (hW : StrsIn g cap ws w)
    (hp : w.cell? ⟨p, 0, none⟩ = some (xp b)) (hq : w.cell? ⟨q, 0, none⟩ = some (.slice (some ⟨g, 0, none⟩) ws.length cap)) (hr : w.cell? ⟨r, 0, none⟩ = some (.int .i64 n)) :
    Calls Tryd.prog 46 #[.int .i64 i, xp p, xp q, xp r] w fun e w' => e = .returned (.bool (!contB S k (ws.getD i ByteArray.empty) n)) ∧ ∃ m, w' = w.drewN m := by
  have hc := hW.cell i hi
  have HC := fun (m : Nat) => ctu_any (wd := ws.getD i ByteArray.empty) (n := n) (row_dn h m)
  generalize contB S k (ws.getD i ByteArray.empty) n = B at *
  generalize ws.getD i ByteArray.empty = wd at *
  have b1 : 0 ≤ (i : Int) ∧ (i : Int) < (ws.length : Int) := ⟨by omega, by omega⟩
  clear hW h
  go_enter Tryd.func46, Tryd.ntmps46
  go_wp2_with fail
  go_quiet ((go_at_call 47; exact quiet_dn (HC _)))
  go_wp2_with fail
  go_ret
  exact ⟨rfl, _, rfl⟩
end Go.Proofs.YtlodijncaojifaaDoor
