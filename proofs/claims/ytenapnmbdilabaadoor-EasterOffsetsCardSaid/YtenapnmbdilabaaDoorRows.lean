/-
  NARROWER THAN 'FOR EVERY INPUT', by the rows' own cells (each row's printed sentence says how): EasterOffsets: laid · EasterNextYear: laid.
  DERIVED. THE GIVEN ROWS OF THIS SEAT. 2 by the template 'for every input the law returns true; each argument reads behind the call as it read before'; 0 by the template 'total and deterministic' (their statements: YtenapnmbdilabaaDoorTotals.lean).
  GIVEN WITH THE SEED: the statements are not yours to turn. If you find one false, say at which input.
  Laid BY PROGRAM, IN A SANDBOX (cutbox-rows.mjs): the forced cells as the released guide's own fill.sh prints them over the translation 58b0e084cac3467f… (all of the seat's roots in one cut). By AI agents, Wed Nov 11 2026. No macro, syntax, notation, axiom, sorry.
-/
import Derived.Test.YtenapnmbdilabaaDoorChecked
import GoSem.Claim
import GoSem.ClaimJoined
import GoSem.ClaimMapViews
import Derived.JoinedTies
import Derived.KernelRfl
namespace Go.Proofs.YtenapnmbdilabaaDoor
/- THE CELL 'sum', in the pinned program and in every row, IS THE sha256 OF THE DUMP (.gsa) THAT YtenapnmbdilabaaDoorProg.lean LOADS. Nothing in Lean hashes anything: it is a label: what it is worth is what the hold of that sum in a sandbox is worth. -/
noncomputable def Tryd.pinned : Pinned := { name := "ytenapnmbdilabaadoor", sum := "58b0e084cac3467f3109fbe9b2b5169c20f5d57dc68ea9ae201ba3efa01845ad", checked := Tryd.checked }
namespace Rows
def none {H : Type} : Left H := { results := [], args := [] }

/- WHAT THE LISTED PACKAGE-LEVEL VARIABLES READ AS WHEN THE CALL BEGINS. Each datum BY PROGRAM (the guide's laid-datum.mjs) off the statement by which the dump's own 'gosem.cut.vars' lays the variable. In a bare row this is a premise. The card (YtenapnmbdilabaaDoorCards.lean) ties it to the program's text. -/
def laid_computus_gregorian_lengths {H : Type} : DataW H := .agg [.lit (.int .i64 31), .lit (.int .i64 28), .lit (.int .i64 31), .lit (.int .i64 30), .lit (.int .i64 31), .lit (.int .i64 30), .lit (.int .i64 31), .lit (.int .i64 31), .lit (.int .i64 30), .lit (.int .i64 31), .lit (.int .i64 30), .lit (.int .i64 31)]
def laid_computus_gregorian_groups {H : Type} : DataW H := .agg [.agg [.lit (.int .i64 400), .lit (.int .i64 146097), .lit (.int .i64 2499999)], .agg [.lit (.int .i64 100), .lit (.int .i64 36524), .lit (.int .i64 3)], .agg [.lit (.int .i64 4), .lit (.int .i64 1461), .lit (.int .i64 24)], .agg [.lit (.int .i64 1), .lit (.int .i64 365), .lit (.int .i64 3)]]
def laid_computus_julian_lengths {H : Type} : DataW H := .agg [.lit (.int .i64 31), .lit (.int .i64 28), .lit (.int .i64 31), .lit (.int .i64 30), .lit (.int .i64 31), .lit (.int .i64 30), .lit (.int .i64 31), .lit (.int .i64 31), .lit (.int .i64 30), .lit (.int .i64 31), .lit (.int .i64 30), .lit (.int .i64 31)]
def laid_computus_label_lengths {H : Type} : DataW H := .agg [.lit (.int .i64 31), .lit (.int .i64 28), .lit (.int .i64 31), .lit (.int .i64 30), .lit (.int .i64 31), .lit (.int .i64 30), .lit (.int .i64 31), .lit (.int .i64 31), .lit (.int .i64 30), .lit (.int .i64 31), .lit (.int .i64 30), .lit (.int .i64 31)]
def laid_computus_label_beginnings {H : Type} : DataW H := .agg [.agg [.lit (.int .i64 1), .lit (.int .i64 1)], .agg [.lit (.int .i64 1), .lit (.int .i64 31)], .agg [.lit (.int .i64 3), .lit (.int .i64 1)], .agg [.lit (.int .i64 3), .lit (.int .i64 31)], .agg [.lit (.int .i64 4), .lit (.int .i64 29)], .agg [.lit (.int .i64 5), .lit (.int .i64 29)], .agg [.lit (.int .i64 6), .lit (.int .i64 27)], .agg [.lit (.int .i64 7), .lit (.int .i64 27)], .agg [.lit (.int .i64 8), .lit (.int .i64 25)], .agg [.lit (.int .i64 9), .lit (.int .i64 24)], .agg [.lit (.int .i64 10), .lit (.int .i64 23)], .agg [.lit (.int .i64 11), .lit (.int .i64 22)], .agg [.lit (.int .i64 12), .lit (.int .i64 21)]]

/-- 'computuslaw10.EasterOffsets': WHATEVER THE INPUT: true; the input reads as it did. -/
def easterOffsetsSpec : ChangeSpec := { name := "easterOffsets", fn := fun _ => fun
  | [d1, d2] => { results := [.lit (.bool true)], args := [d1, d2] }
  | _ => none }
def easterOffsetsRow : OpenClaim := { program := "ytenapnmbdilabaadoor", sum := "58b0e084cac3467f3109fbe9b2b5169c20f5d57dc68ea9ae201ba3efa01845ad", func := "computus/computuslaw10.EasterOffsets", spec := "easterOffsets", unfollowed := true, recurses := true, named := ["computus/julian.lengths", "computus/gregorian.lengths", "computus/gregorian.groups", "computus/label.beginnings", "computus/label.lengths"], apart := false, laid := [("computus/gregorian.lengths", laid_computus_gregorian_lengths), ("computus/gregorian.groups", laid_computus_gregorian_groups), ("computus/julian.lengths", laid_computus_julian_lengths), ("computus/label.lengths", laid_computus_label_lengths), ("computus/label.beginnings", laid_computus_label_beginnings)] }
def EasterOffsetsSaid : Prop := easterOffsetsRow.holds Tryd.pinned (OpenSpec.ofChange easterOffsetsSpec)

/-- ITS FALSE NEIGHBOUR: 'it returns false'. Refute it at one input. -/
def easterOffsetsWrong : ChangeSpec := { name := "easterOffsets", fn := fun _ => fun
  | [d1, d2] => { results := [.lit (.bool false)], args := [d1, d2] }
  | _ => none }
def EasterOffsetsWrongFalsely : Prop := easterOffsetsRow.holds Tryd.pinned (OpenSpec.ofChange easterOffsetsWrong)

/-- 'computuslaw10.EasterNextYear': WHATEVER THE INPUT: true; the input reads as it did. -/
def easterNextYearSpec : ChangeSpec := { name := "easterNextYear", fn := fun _ => fun
  | [d1, d2] => { results := [.lit (.bool true)], args := [d1, d2] }
  | _ => none }
def easterNextYearRow : OpenClaim := { program := "ytenapnmbdilabaadoor", sum := "58b0e084cac3467f3109fbe9b2b5169c20f5d57dc68ea9ae201ba3efa01845ad", func := "computus/computuslaw10.EasterNextYear", spec := "easterNextYear", unfollowed := true, recurses := true, named := ["computus/julian.lengths", "computus/gregorian.lengths", "computus/gregorian.groups", "computus/label.beginnings", "computus/label.lengths"], apart := false, laid := [("computus/gregorian.lengths", laid_computus_gregorian_lengths), ("computus/gregorian.groups", laid_computus_gregorian_groups), ("computus/julian.lengths", laid_computus_julian_lengths), ("computus/label.lengths", laid_computus_label_lengths), ("computus/label.beginnings", laid_computus_label_beginnings)] }
def EasterNextYearSaid : Prop := easterNextYearRow.holds Tryd.pinned (OpenSpec.ofChange easterNextYearSpec)

/-- ITS FALSE NEIGHBOUR: 'it returns false'. Refute it at one input. -/
def easterNextYearWrong : ChangeSpec := { name := "easterNextYear", fn := fun _ => fun
  | [d1, d2] => { results := [.lit (.bool false)], args := [d1, d2] }
  | _ => none }
def EasterNextYearWrongFalsely : Prop := easterNextYearRow.holds Tryd.pinned (OpenSpec.ofChange easterNextYearWrong)

/- THE SECOND FORM. 'bulk': how many values and letters a reading holds, each counted each time it is reached (what is shared counts as often as it is met; a slice's spare places count too). A statement '..UptoSaid' is the law's where the arguments, and the package variables that the reading takes, are together of bulk at most 1048576: NARROWER than '..Said'. Prove '..Said' where nothing that the law and all that it calls make is longer than what came in: it says more and counts as full. Else prove '..UptoSaid'. A law counts once. -/
mutual
def uptoBulk {H : Type} : DataW H → Nat
  | .lit (.string bytes) => bytes.length + 1
  | .lit _ => 1
  | .nil => 1
  | .ptr d => uptoBulk d + 1
  | .slice elems spare => uptoBulkAll elems + uptoBulkAll spare + 1
  | .agg parts => uptoBulkAll parts + 1
  | .iface _ d => uptoBulk d + 1
  | .map entries => uptoBulkEntries entries + 1
  | .held _ => 1
def uptoBulkAll {H : Type} : List (DataW H) → Nat
  | [] => 0
  | d :: r => uptoBulk d + uptoBulkAll r
def uptoBulkEntries {H : Type} : List (Lit × DataW H) → Nat
  | [] => 0
  | x :: r => uptoBulkEntry x + uptoBulkEntries r
def uptoBulkEntry {H : Type} : Lit × DataW H → Nat
  | (.string bytes, d) => bytes.length + uptoBulk d + 1
  | (_, d) => uptoBulk d + 1
 end
def uptoSmall : (H : Type) → List (DataW H) → Bool := fun _ ds => decide (uptoBulkAll ds ≤ 1048576)
def OpenSpec.upto (s : _root_.Go.ChangeSpec) : _root_.Go.OpenSpec := { _root_.Go.OpenSpec.ofChange s with cond := some uptoSmall }

/-- 'computuslaw10.EasterOffsets', WHERE WHAT IT READS IS OF BULK AT MOST 1048576: true; the input reads as it did. -/
def easterOffsetsUptoRow : OpenClaim := { program := "ytenapnmbdilabaadoor", sum := "58b0e084cac3467f3109fbe9b2b5169c20f5d57dc68ea9ae201ba3efa01845ad", func := "computus/computuslaw10.EasterOffsets", spec := "easterOffsets", unfollowed := true, recurses := true, named := ["computus/julian.lengths", "computus/gregorian.lengths", "computus/gregorian.groups", "computus/label.beginnings", "computus/label.lengths"], apart := false, laid := [("computus/gregorian.lengths", laid_computus_gregorian_lengths), ("computus/gregorian.groups", laid_computus_gregorian_groups), ("computus/julian.lengths", laid_computus_julian_lengths), ("computus/label.lengths", laid_computus_label_lengths), ("computus/label.beginnings", laid_computus_label_beginnings)], narrowed := true }
def EasterOffsetsUptoSaid : Prop := easterOffsetsUptoRow.holds Tryd.pinned (OpenSpec.upto easterOffsetsSpec)

/-- 'computuslaw10.EasterNextYear', WHERE WHAT IT READS IS OF BULK AT MOST 1048576: true; the input reads as it did. -/
def easterNextYearUptoRow : OpenClaim := { program := "ytenapnmbdilabaadoor", sum := "58b0e084cac3467f3109fbe9b2b5169c20f5d57dc68ea9ae201ba3efa01845ad", func := "computus/computuslaw10.EasterNextYear", spec := "easterNextYear", unfollowed := true, recurses := true, named := ["computus/julian.lengths", "computus/gregorian.lengths", "computus/gregorian.groups", "computus/label.beginnings", "computus/label.lengths"], apart := false, laid := [("computus/gregorian.lengths", laid_computus_gregorian_lengths), ("computus/gregorian.groups", laid_computus_gregorian_groups), ("computus/julian.lengths", laid_computus_julian_lengths), ("computus/label.lengths", laid_computus_label_lengths), ("computus/label.beginnings", laid_computus_label_beginnings)], narrowed := true }
def EasterNextYearUptoSaid : Prop := easterNextYearUptoRow.holds Tryd.pinned (OpenSpec.upto easterNextYearSpec)

end Rows
end Go.Proofs.YtenapnmbdilabaaDoor
