/- What earlier stages proved: Lf Lg. -/
import Derived.Test.YtiegddohgjofbaaKn
import Derived.Test.YtiegddohgjofbaaKa
import Derived.LoopTactic
import Derived.OwnWalk
import Derived.Maps.AppendAt
namespace Go.Proofs.Ytiegddohgjofbaa
open Go.RowKit

theorem rex_any (m d : Int) (w : World) :
    Calls Try.prog 28 #[.int .i64 m, .int .i64 d] w fun e w' => e = .returned (.bool (okD m d)) ∧ w = w' := by
  cases h1 : decide (1 ≤ d)
  · have hv := Lib.hid (okD_false (m := m) (d := d) (by simp at h1; omega))
    go_enter Try.func28, Try.ntmps28
    go_wp2_with fail
    go_ret
    exact ⟨ret_bool hv.out.symm, rfl⟩
  · cases h2 : decide (d ≤ dim false m)
    · have hv := Lib.hid (okD_false (m := m) (d := d) (by simp at h2; omega))
      go_enter Try.func28, Try.ntmps28
      go_wp2_with fail
      refine (rlen_any _ _ _).mono ?_
      rintro e wq ⟨rfl, rfl⟩
      go_wp2_with fail
      go_ret
      exact ⟨ret_bool hv.out.symm, rfl⟩
    · have hv := Lib.hid (okD_iff.2 (show 1 ≤ d ∧ d ≤ dim false m by simp at h1 h2; omega))
      go_enter Try.func28, Try.ntmps28
      go_wp2_with fail
      refine (rlen_any _ _ _).mono ?_
      rintro e wq ⟨rfl, rfl⟩
      go_wp2_with fail
      go_ret
      exact ⟨ret_bool hv.out.symm, rfl⟩

end Go.Proofs.Ytiegddohgjofbaa

namespace Go.Proofs.Ytiegddohgjofbaa
open Go.RowKit

theorem IntsAt.app {B : Nat} {v v' : Value} {xs : List Int} {a : Int} {w w1 w2 : World} {o : Obj} (hv : IntsAt B v xs w1) (hB : Below B w w1) (hs : B ≤ w1.heap.size)
    (hown : w2.ownsRow B 3 1 v' (xs.length + 1) (xs.map (Value.int .i64) ++ [.int .i64 a])) (hg : (w1.alloc o).grownBy w2 v.ownBlock) : IntsAt B v' (xs ++ [a]) w2 ∧ Below B w w2 := by
  refine ⟨?_, (hB.alloc hs _).grown hg (by simp; omega) (fun k e => (World.ownsRow.lt hv k e).1)⟩
  rw [IntsAt, List.length_append, List.map_append]
  exact hown
end Go.Proofs.Ytiegddohgjofbaa
