/- The reference of package linescan: Word, Number, End. -/
import Derived.Test.YtlodijncaojifaaDoorNo
namespace Go.Proofs.YtlodijncaojifaaDoor
open Go.RowKit

theorem rwo_bad (S : ByteArray) (k : Nat) (v : Value) (w : World) : Calls Tryd.prog 11 #[sv S k true, v] w fun e w' => e = .returned (.tuple #[sv S k true, .int .i64 (-1)]) ∧ Below w.heap.size w w' := by
  go_enter Tryd.func11, Tryd.ntmps11
  go_wp2
  exact bodyPost_ret (v := .tuple #[sv S k true, .int .i64 (-1)]) (by simp [results, Tryd.results11, go_sem]) rfl ⟨rfl, al2 w _ _⟩
theorem rnu_bad (S : ByteArray) (k : Nat) (w : World) : Calls Tryd.prog 13 #[sv S k true] w fun e w' => e = .returned (.tuple #[sv S k true, .int .i64 0]) ∧ Below w.heap.size w w' := by
  go_enter Tryd.func13, Tryd.ntmps13
  go_wp2
  exact bodyPost_ret (v := .tuple #[sv S k true, .int .i64 0]) (by simp [results, Tryd.results13, go_sem]) rfl ⟨rfl, al2 w _ _⟩
theorem rid_bad (S : ByteArray) (k : Nat) (w : World) : Calls Tryd.prog 15 #[sv S k true] w fun e w' => e = .returned (.tuple #[sv S k true, .string ⟨#[]⟩]) ∧ Below w.heap.size w w' := by
  go_enter Tryd.func15, Tryd.ntmps15
  go_wp2
  exact bodyPost_ret (v := .tuple #[sv S k true, .string ⟨#[]⟩]) (by simp [results, Tryd.results15, go_sem]) rfl ⟨rfl, al2 w _ _⟩
theorem ren_bad (S : ByteArray) (k : Nat) (w : World) : Calls Tryd.prog 18 #[sv S k true] w fun e w' => e = .returned (sv S k true) ∧ Below w.heap.size w w' := by
  go_enter Tryd.func18, Tryd.ntmps18
  go_wp2
  exact bodyPost_ret (v := sv S k true) (by simp [results, Tryd.results18, go_sem]) rfl ⟨rfl, al2 w _ _⟩
theorem ren_ok (S : ByteArray) (k : Nat) (hk : S.size ≤ k) (w : World) : Calls Tryd.prog 18 #[sv S k false] w fun e w' => e = .returned (sv S k false) ∧ Below w.heap.size w w' := by
  have d1 : ¬ k < S.size := by omega
  go_enter Tryd.func18, Tryd.ntmps18
  go_wp2
  exact bodyPost_ret (v := sv S k false) (by simp [results, Tryd.results18, go_sem]) rfl ⟨rfl, al2 w _ _⟩
theorem ren_no (S : ByteArray) (k : Nat) (hk : k < S.size) (w : World) : Calls Tryd.prog 18 #[sv S k false] w fun e w' => e = .returned (sv S k true) ∧ Below w.heap.size w w' := by
  have HF := fun u => rfa_any S k k false u
  go_enter Tryd.func18, Tryd.ntmps18
  go_wp2_with fail
  refine (HF _).mono ?_
  rintro e v ⟨rfl, hb⟩
  have rR := row_kept (row_new1 w (stO S k false) stZ) hb
  have bl := below_on (al2 w (stO S k false) stZ) hb
  obtain ⟨e0, e1, e2, z0, z1, z2, -⟩ := st_facts rR
  clear hb
  go_wp2_with fail
  obtain ⟨u9, hu9⟩ : ∃ u9, u9 = (((v).setCell ⟨w.heap.size + 1, 0, none⟩ (.string S)).setCell ⟨w.heap.size + 1, 1, none⟩ (.int .i64 k)).setCell ⟨w.heap.size + 1, 2, none⟩ (.bool true) := ⟨_, rfl⟩
  obtain ⟨k0, k1, k2, kb⟩ := st_put (w := w) _ _ _ rR bl (by omega) hu9
  rw [← hu9]
  exact bodyPost_ret (v := .agg #[.string S, .int .i64 k, .bool true]) (by simp [results, Tryd.results18, go_sem, k0, k1, k2]) rfl ⟨rfl, kb⟩
end Go.Proofs.YtlodijncaojifaaDoor
