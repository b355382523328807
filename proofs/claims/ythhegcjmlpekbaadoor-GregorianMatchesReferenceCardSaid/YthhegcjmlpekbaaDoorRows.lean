/-
  NARROWER THAN 'FOR EVERY INPUT', by the rows' own cells (each row's printed sentence says how): GregorianMatchesReference: laid · GregorianRoundTrip: laid · GregorianSuccessor: laid · GregorianOrder: laid · GregorianCycle: laid · GregorianMonths: laid.
  DERIVED. THE GIVEN ROWS OF THIS SEAT. 6 by the template 'for every input the law returns true; each argument reads behind the call as it read before'; 0 by the template 'total and deterministic' (their statements: YthhegcjmlpekbaaDoorTotals.lean).
  GIVEN WITH THE SEED: the statements are not yours to turn. If you find one false, say at which input.
  Laid BY PROGRAM, IN A SANDBOX (cutbox-rows.mjs): the forced cells as the released guide's own fill.sh prints them over the translation 823a70a3f078ca9d… (all of the seat's roots in one cut). By AI agents, Wed Nov 11 2026. No macro, syntax, notation, axiom, sorry.
-/
import Derived.Test.YthhegcjmlpekbaaDoorChecked
import GoSem.Claim
import GoSem.ClaimJoined
import GoSem.ClaimMapViews
import Derived.JoinedTies
import Derived.KernelRfl
namespace Go.Proofs.YthhegcjmlpekbaaDoor
/- THE CELL 'sum', in the pinned program and in every row, IS THE sha256 OF THE DUMP (.gsa) THAT YthhegcjmlpekbaaDoorProg.lean LOADS. Nothing in Lean hashes anything: it is a label: what it is worth is what the hold of that sum in a sandbox is worth. -/
noncomputable def Tryd.pinned : Pinned := { name := "ythhegcjmlpekbaadoor", sum := "823a70a3f078ca9ddcbb782d3f6f62005c894dbbd0f4389a816693d55f270efd", checked := Tryd.checked }
namespace Rows
def none {H : Type} : Left H := { results := [], args := [] }

/- WHAT THE LISTED PACKAGE-LEVEL VARIABLES READ AS WHEN THE CALL BEGINS. Each datum BY PROGRAM (the guide's laid-datum.mjs) off the statement by which the dump's own 'gosem.cut.vars' lays the variable. In a bare row this is a premise. The card (YthhegcjmlpekbaaDoorCards.lean) ties it to the program's text. -/
def laid_computus_gregorian_lengths {H : Type} : DataW H := .agg [.lit (.int .i64 31), .lit (.int .i64 28), .lit (.int .i64 31), .lit (.int .i64 30), .lit (.int .i64 31), .lit (.int .i64 30), .lit (.int .i64 31), .lit (.int .i64 31), .lit (.int .i64 30), .lit (.int .i64 31), .lit (.int .i64 30), .lit (.int .i64 31)]
def laid_computus_gregorian_groups {H : Type} : DataW H := .agg [.agg [.lit (.int .i64 400), .lit (.int .i64 146097), .lit (.int .i64 2499999)], .agg [.lit (.int .i64 100), .lit (.int .i64 36524), .lit (.int .i64 3)], .agg [.lit (.int .i64 4), .lit (.int .i64 1461), .lit (.int .i64 24)], .agg [.lit (.int .i64 1), .lit (.int .i64 365), .lit (.int .i64 3)]]

/-- 'computuslaw03.GregorianMatchesReference': WHATEVER THE INPUT: true; the input reads as it did. -/
def gregorianMatchesReferenceSpec : ChangeSpec := { name := "gregorianMatchesReference", fn := fun _ => fun
  | [d1, d2, d3, d4] => { results := [.lit (.bool true)], args := [d1, d2, d3, d4] }
  | _ => none }
def gregorianMatchesReferenceRow : OpenClaim := { program := "ythhegcjmlpekbaadoor", sum := "823a70a3f078ca9ddcbb782d3f6f62005c894dbbd0f4389a816693d55f270efd", func := "computus/computuslaw03.GregorianMatchesReference", spec := "gregorianMatchesReference", named := ["computus/gregorian.lengths", "computus/gregorian.groups"], apart := false, laid := [("computus/gregorian.lengths", laid_computus_gregorian_lengths), ("computus/gregorian.groups", laid_computus_gregorian_groups)] }
def GregorianMatchesReferenceSaid : Prop := gregorianMatchesReferenceRow.holds Tryd.pinned (OpenSpec.ofChange gregorianMatchesReferenceSpec)

/-- ITS FALSE NEIGHBOUR: 'it returns false'. Refute it at one input. -/
def gregorianMatchesReferenceWrong : ChangeSpec := { name := "gregorianMatchesReference", fn := fun _ => fun
  | [d1, d2, d3, d4] => { results := [.lit (.bool false)], args := [d1, d2, d3, d4] }
  | _ => none }
def GregorianMatchesReferenceWrongFalsely : Prop := gregorianMatchesReferenceRow.holds Tryd.pinned (OpenSpec.ofChange gregorianMatchesReferenceWrong)

/-- 'computuslaw03.GregorianRoundTrip': WHATEVER THE INPUT: true; the input reads as it did. -/
def gregorianRoundTripSpec : ChangeSpec := { name := "gregorianRoundTrip", fn := fun _ => fun
  | [d1, d2] => { results := [.lit (.bool true)], args := [d1, d2] }
  | _ => none }
def gregorianRoundTripRow : OpenClaim := { program := "ythhegcjmlpekbaadoor", sum := "823a70a3f078ca9ddcbb782d3f6f62005c894dbbd0f4389a816693d55f270efd", func := "computus/computuslaw03.GregorianRoundTrip", spec := "gregorianRoundTrip", named := ["computus/gregorian.lengths", "computus/gregorian.groups"], apart := false, laid := [("computus/gregorian.lengths", laid_computus_gregorian_lengths), ("computus/gregorian.groups", laid_computus_gregorian_groups)] }
def GregorianRoundTripSaid : Prop := gregorianRoundTripRow.holds Tryd.pinned (OpenSpec.ofChange gregorianRoundTripSpec)

/-- ITS FALSE NEIGHBOUR: 'it returns false'. Refute it at one input. -/
def gregorianRoundTripWrong : ChangeSpec := { name := "gregorianRoundTrip", fn := fun _ => fun
  | [d1, d2] => { results := [.lit (.bool false)], args := [d1, d2] }
  | _ => none }
def GregorianRoundTripWrongFalsely : Prop := gregorianRoundTripRow.holds Tryd.pinned (OpenSpec.ofChange gregorianRoundTripWrong)

/-- 'computuslaw03.GregorianSuccessor': WHATEVER THE INPUT: true; the input reads as it did. -/
def gregorianSuccessorSpec : ChangeSpec := { name := "gregorianSuccessor", fn := fun _ => fun
  | [d] => { results := [.lit (.bool true)], args := [d] }
  | _ => none }
def gregorianSuccessorRow : OpenClaim := { program := "ythhegcjmlpekbaadoor", sum := "823a70a3f078ca9ddcbb782d3f6f62005c894dbbd0f4389a816693d55f270efd", func := "computus/computuslaw03.GregorianSuccessor", spec := "gregorianSuccessor", named := ["computus/gregorian.lengths", "computus/gregorian.groups"], apart := false, laid := [("computus/gregorian.lengths", laid_computus_gregorian_lengths), ("computus/gregorian.groups", laid_computus_gregorian_groups)] }
def GregorianSuccessorSaid : Prop := gregorianSuccessorRow.holds Tryd.pinned (OpenSpec.ofChange gregorianSuccessorSpec)

/-- ITS FALSE NEIGHBOUR: 'it returns false'. Refute it at one input. -/
def gregorianSuccessorWrong : ChangeSpec := { name := "gregorianSuccessor", fn := fun _ => fun
  | [d] => { results := [.lit (.bool false)], args := [d] }
  | _ => none }
def GregorianSuccessorWrongFalsely : Prop := gregorianSuccessorRow.holds Tryd.pinned (OpenSpec.ofChange gregorianSuccessorWrong)

/-- 'computuslaw03.GregorianOrder': WHATEVER THE INPUT: true; the input reads as it did. -/
def gregorianOrderSpec : ChangeSpec := { name := "gregorianOrder", fn := fun _ => fun
  | [d1, d2] => { results := [.lit (.bool true)], args := [d1, d2] }
  | _ => none }
def gregorianOrderRow : OpenClaim := { program := "ythhegcjmlpekbaadoor", sum := "823a70a3f078ca9ddcbb782d3f6f62005c894dbbd0f4389a816693d55f270efd", func := "computus/computuslaw03.GregorianOrder", spec := "gregorianOrder", named := ["computus/gregorian.lengths", "computus/gregorian.groups"], apart := false, laid := [("computus/gregorian.lengths", laid_computus_gregorian_lengths), ("computus/gregorian.groups", laid_computus_gregorian_groups)] }
def GregorianOrderSaid : Prop := gregorianOrderRow.holds Tryd.pinned (OpenSpec.ofChange gregorianOrderSpec)

/-- ITS FALSE NEIGHBOUR: 'it returns false'. Refute it at one input. -/
def gregorianOrderWrong : ChangeSpec := { name := "gregorianOrder", fn := fun _ => fun
  | [d1, d2] => { results := [.lit (.bool false)], args := [d1, d2] }
  | _ => none }
def GregorianOrderWrongFalsely : Prop := gregorianOrderRow.holds Tryd.pinned (OpenSpec.ofChange gregorianOrderWrong)

/-- 'computuslaw03.GregorianCycle': WHATEVER THE INPUT: true; the input reads as it did. -/
def gregorianCycleSpec : ChangeSpec := { name := "gregorianCycle", fn := fun _ => fun
  | [d] => { results := [.lit (.bool true)], args := [d] }
  | _ => none }
def gregorianCycleRow : OpenClaim := { program := "ythhegcjmlpekbaadoor", sum := "823a70a3f078ca9ddcbb782d3f6f62005c894dbbd0f4389a816693d55f270efd", func := "computus/computuslaw03.GregorianCycle", spec := "gregorianCycle", named := ["computus/gregorian.lengths", "computus/gregorian.groups"], apart := false, laid := [("computus/gregorian.lengths", laid_computus_gregorian_lengths), ("computus/gregorian.groups", laid_computus_gregorian_groups)] }
def GregorianCycleSaid : Prop := gregorianCycleRow.holds Tryd.pinned (OpenSpec.ofChange gregorianCycleSpec)

/-- ITS FALSE NEIGHBOUR: 'it returns false'. Refute it at one input. -/
def gregorianCycleWrong : ChangeSpec := { name := "gregorianCycle", fn := fun _ => fun
  | [d] => { results := [.lit (.bool false)], args := [d] }
  | _ => none }
def GregorianCycleWrongFalsely : Prop := gregorianCycleRow.holds Tryd.pinned (OpenSpec.ofChange gregorianCycleWrong)

/-- 'computuslaw03.GregorianMonths': WHATEVER THE INPUT: true; the input reads as it did. -/
def gregorianMonthsSpec : ChangeSpec := { name := "gregorianMonths", fn := fun _ => fun
  | [d1, d2] => { results := [.lit (.bool true)], args := [d1, d2] }
  | _ => none }
def gregorianMonthsRow : OpenClaim := { program := "ythhegcjmlpekbaadoor", sum := "823a70a3f078ca9ddcbb782d3f6f62005c894dbbd0f4389a816693d55f270efd", func := "computus/computuslaw03.GregorianMonths", spec := "gregorianMonths", named := ["computus/gregorian.lengths", "computus/gregorian.groups"], apart := false, laid := [("computus/gregorian.lengths", laid_computus_gregorian_lengths), ("computus/gregorian.groups", laid_computus_gregorian_groups)] }
def GregorianMonthsSaid : Prop := gregorianMonthsRow.holds Tryd.pinned (OpenSpec.ofChange gregorianMonthsSpec)

/-- ITS FALSE NEIGHBOUR: 'it returns false'. Refute it at one input. -/
def gregorianMonthsWrong : ChangeSpec := { name := "gregorianMonths", fn := fun _ => fun
  | [d1, d2] => { results := [.lit (.bool false)], args := [d1, d2] }
  | _ => none }
def GregorianMonthsWrongFalsely : Prop := gregorianMonthsRow.holds Tryd.pinned (OpenSpec.ofChange gregorianMonthsWrong)

/- THE SECOND FORM. 'bulk': how many values and letters a reading holds, each counted each time it is reached (what is shared counts as often as it is met; a slice's spare places count too). A statement '..UptoSaid' is the law's where the arguments, and the package variables that the reading takes, are together of bulk at most 1048576: NARROWER than '..Said'. Prove '..Said' where nothing that the law and all that it calls make is longer than what came in: it says more and counts as full. Else prove '..UptoSaid'. A law counts once. -/
mutual
def uptoBulk {H : Type} : DataW H → Nat
  | .lit (.string bytes) => bytes.length + 1
  | .lit _ => 1
  | .nil => 1
  | .ptr d => uptoBulk d + 1
  | .slice elems spare => uptoBulkAll elems + uptoBulkAll spare + 1
  | .agg parts => uptoBulkAll parts + 1
  | .iface _ d => uptoBulk d + 1
  | .map entries => uptoBulkEntries entries + 1
  | .held _ => 1
def uptoBulkAll {H : Type} : List (DataW H) → Nat
  | [] => 0
  | d :: r => uptoBulk d + uptoBulkAll r
def uptoBulkEntries {H : Type} : List (Lit × DataW H) → Nat
  | [] => 0
  | x :: r => uptoBulkEntry x + uptoBulkEntries r
def uptoBulkEntry {H : Type} : Lit × DataW H → Nat
  | (.string bytes, d) => bytes.length + uptoBulk d + 1
  | (_, d) => uptoBulk d + 1
 end
def uptoSmall : (H : Type) → List (DataW H) → Bool := fun _ ds => decide (uptoBulkAll ds ≤ 1048576)
def OpenSpec.upto (s : _root_.Go.ChangeSpec) : _root_.Go.OpenSpec := { _root_.Go.OpenSpec.ofChange s with cond := some uptoSmall }

/-- 'computuslaw03.GregorianMatchesReference', WHERE WHAT IT READS IS OF BULK AT MOST 1048576: true; the input reads as it did. -/
def gregorianMatchesReferenceUptoRow : OpenClaim := { program := "ythhegcjmlpekbaadoor", sum := "823a70a3f078ca9ddcbb782d3f6f62005c894dbbd0f4389a816693d55f270efd", func := "computus/computuslaw03.GregorianMatchesReference", spec := "gregorianMatchesReference", named := ["computus/gregorian.lengths", "computus/gregorian.groups"], apart := false, laid := [("computus/gregorian.lengths", laid_computus_gregorian_lengths), ("computus/gregorian.groups", laid_computus_gregorian_groups)], narrowed := true }
def GregorianMatchesReferenceUptoSaid : Prop := gregorianMatchesReferenceUptoRow.holds Tryd.pinned (OpenSpec.upto gregorianMatchesReferenceSpec)

/-- 'computuslaw03.GregorianRoundTrip', WHERE WHAT IT READS IS OF BULK AT MOST 1048576: true; the input reads as it did. -/
def gregorianRoundTripUptoRow : OpenClaim := { program := "ythhegcjmlpekbaadoor", sum := "823a70a3f078ca9ddcbb782d3f6f62005c894dbbd0f4389a816693d55f270efd", func := "computus/computuslaw03.GregorianRoundTrip", spec := "gregorianRoundTrip", named := ["computus/gregorian.lengths", "computus/gregorian.groups"], apart := false, laid := [("computus/gregorian.lengths", laid_computus_gregorian_lengths), ("computus/gregorian.groups", laid_computus_gregorian_groups)], narrowed := true }
def GregorianRoundTripUptoSaid : Prop := gregorianRoundTripUptoRow.holds Tryd.pinned (OpenSpec.upto gregorianRoundTripSpec)

/-- 'computuslaw03.GregorianSuccessor', WHERE WHAT IT READS IS OF BULK AT MOST 1048576: true; the input reads as it did. -/
def gregorianSuccessorUptoRow : OpenClaim := { program := "ythhegcjmlpekbaadoor", sum := "823a70a3f078ca9ddcbb782d3f6f62005c894dbbd0f4389a816693d55f270efd", func := "computus/computuslaw03.GregorianSuccessor", spec := "gregorianSuccessor", named := ["computus/gregorian.lengths", "computus/gregorian.groups"], apart := false, laid := [("computus/gregorian.lengths", laid_computus_gregorian_lengths), ("computus/gregorian.groups", laid_computus_gregorian_groups)], narrowed := true }
def GregorianSuccessorUptoSaid : Prop := gregorianSuccessorUptoRow.holds Tryd.pinned (OpenSpec.upto gregorianSuccessorSpec)

/-- 'computuslaw03.GregorianOrder', WHERE WHAT IT READS IS OF BULK AT MOST 1048576: true; the input reads as it did. -/
def gregorianOrderUptoRow : OpenClaim := { program := "ythhegcjmlpekbaadoor", sum := "823a70a3f078ca9ddcbb782d3f6f62005c894dbbd0f4389a816693d55f270efd", func := "computus/computuslaw03.GregorianOrder", spec := "gregorianOrder", named := ["computus/gregorian.lengths", "computus/gregorian.groups"], apart := false, laid := [("computus/gregorian.lengths", laid_computus_gregorian_lengths), ("computus/gregorian.groups", laid_computus_gregorian_groups)], narrowed := true }
def GregorianOrderUptoSaid : Prop := gregorianOrderUptoRow.holds Tryd.pinned (OpenSpec.upto gregorianOrderSpec)

/-- 'computuslaw03.GregorianCycle', WHERE WHAT IT READS IS OF BULK AT MOST 1048576: true; the input reads as it did. -/
def gregorianCycleUptoRow : OpenClaim := { program := "ythhegcjmlpekbaadoor", sum := "823a70a3f078ca9ddcbb782d3f6f62005c894dbbd0f4389a816693d55f270efd", func := "computus/computuslaw03.GregorianCycle", spec := "gregorianCycle", named := ["computus/gregorian.lengths", "computus/gregorian.groups"], apart := false, laid := [("computus/gregorian.lengths", laid_computus_gregorian_lengths), ("computus/gregorian.groups", laid_computus_gregorian_groups)], narrowed := true }
def GregorianCycleUptoSaid : Prop := gregorianCycleUptoRow.holds Tryd.pinned (OpenSpec.upto gregorianCycleSpec)

/-- 'computuslaw03.GregorianMonths', WHERE WHAT IT READS IS OF BULK AT MOST 1048576: true; the input reads as it did. -/
def gregorianMonthsUptoRow : OpenClaim := { program := "ythhegcjmlpekbaadoor", sum := "823a70a3f078ca9ddcbb782d3f6f62005c894dbbd0f4389a816693d55f270efd", func := "computus/computuslaw03.GregorianMonths", spec := "gregorianMonths", named := ["computus/gregorian.lengths", "computus/gregorian.groups"], apart := false, laid := [("computus/gregorian.lengths", laid_computus_gregorian_lengths), ("computus/gregorian.groups", laid_computus_gregorian_groups)], narrowed := true }
def GregorianMonthsUptoSaid : Prop := gregorianMonthsUptoRow.holds Tryd.pinned (OpenSpec.upto gregorianMonthsSpec)

end Rows
end Go.Proofs.YthhegcjmlpekbaaDoor
