/- The contracts of package civil's OfYear, YearLength, Weekday, Shift, FromYear. -/
import Derived.Test.YtclnpnkjldddcaaDoorCi
import Derived.Test.YtclnpnkjldddcaaDoorWo
namespace Go.Proofs.YtclnpnkjldddcaaDoor
open Go.RowKit

section
variable (c y m d n k : Int) (w : World)
theorem cofy_err (ht : CTab w) (H : ∀ w, CTab w → Calls Tryd.prog 45 #[.int .i64 c, dtv y m d] w fun e w' => e = .returned (numv n k) ∧ Below w.heap.size w w') (hk : (k != 0) = true) : Calls Tryd.prog 44 #[.int .i64 c, dtv y m d] w fun e w' => e = .returned (numv 0 k) ∧ Below w.heap.size w w' := by
  have S0 := Lib.hid (St.start ht)
  clear ht
  go_enter Tryd.func44, Tryd.ntmps44
  go_wp2_with fail
  refine (H _ (S0.out.al _).t).mono ?_
  rintro e w1 ⟨rfl, hb1⟩
  have S1 := Lib.hid ((S0.out.al _).on hb1)
  obtain ⟨hc1, hf1⟩ := bcell hb1
  clear hb1
  go_wp2_with fail
  go_ret2
  exact ⟨rfl, (S1.out).b⟩
theorem cofy_ok (f : Int) (ht : CTab w) (H : ∀ w, CTab w → Calls Tryd.prog 45 #[.int .i64 c, dtv y m d] w fun e w' => e = .returned (numv n 0) ∧ Below w.heap.size w w') (H1 : ∀ w, CTab w → Calls Tryd.prog 45 #[.int .i64 c, dtv y 1 1] w fun e w' => e = .returned (numv f 0) ∧ Below w.heap.size w w') (n1 : -1 ≤ n) (n2 : n ≤ 365249999998) (f1 : -1 ≤ f) (f2 : f ≤ 365249999998) : Calls Tryd.prog 44 #[.int .i64 c, dtv y m d] w fun e w' => e = .returned (numv (n - f + 1) 0) ∧ Below w.heap.size w w' := by
  have S0 := Lib.hid (St.start ht)
  clear ht
  go_enter Tryd.func44, Tryd.ntmps44
  go_wp2_with fail
  refine (H _ (S0.out.al _).t).mono ?_
  rintro e w1 ⟨rfl, hb1⟩
  have S1 := Lib.hid ((S0.out.al _).on hb1)
  obtain ⟨hc1, hf1⟩ := bcell hb1
  have hz1_0 : w.heap.size < w1.heap.size := by have := hb1.size; (try simp at this); omega
  clear hb1
  go_wp2_with fail
  refine (H1 _ (S1.out).t).mono ?_
  rintro e w2 ⟨rfl, hb2⟩
  have S2 := Lib.hid ((S1.out).on hb2)
  obtain ⟨hc2, hf2⟩ := bcell hb2
  have hz2_0 : w.heap.size < w2.heap.size := by have := hb2.size; (try simp at this); omega
  clear hb2
  go_wp2_with fail
  go_ret2
  exact ⟨rfl, (S2.out).b⟩
theorem cylen_any0 (ht : CTab w) (H : ∀ w, CTab w → Calls Tryd.prog 44 #[.int .i64 c, dtv y 12 31] w fun e w' => e = .returned (numv n k) ∧ Below w.heap.size w w') : Calls Tryd.prog 33 #[.int .i64 c, .int .i64 y] w fun e w' => e = .returned (numv n k) ∧ Below w.heap.size w w' := by
  have S0 := Lib.hid (St.start ht)
  clear ht
  go_enter Tryd.func33, Tryd.ntmps33
  go_wp2_with fail
  refine (H _ (S0.out).t).mono ?_
  rintro e w1 ⟨rfl, hb1⟩
  have S1 := Lib.hid ((S0.out).on hb1)
  obtain ⟨hc1, hf1⟩ := bcell hb1
  clear hb1
  go_wp2_with fail
  go_ret2
  exact ⟨rfl, (S1.out).b⟩
end
section
variable (c y m d n k s : Int) (w : World)
end
end Go.Proofs.YtclnpnkjldddcaaDoor
