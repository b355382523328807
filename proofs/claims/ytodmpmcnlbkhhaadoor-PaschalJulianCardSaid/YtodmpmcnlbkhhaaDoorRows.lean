/-
  NARROWER THAN 'FOR EVERY INPUT', by the rows' own cells (each row's printed sentence says how): PaschalMatchesReference: laid · PaschalIsTabular: laid · PaschalTables: laid · PaschalJulian: laid · PaschalMonths: laid.
  DERIVED. THE GIVEN ROWS OF THIS SEAT. 5 by the template 'for every input the law returns true; each argument reads behind the call as it read before'; 0 by the template 'total and deterministic' (their statements: YtodmpmcnlbkhhaaDoorTotals.lean).
  GIVEN WITH THE SEED: the statements are not yours to turn. If you find one false, say at which input.
  Laid BY PROGRAM, IN A SANDBOX (cutbox-rows.mjs): the forced cells as the released guide's own fill.sh prints them over the translation 681f8fc695e96c7c… (all of the seat's roots in one cut). By AI agents, Wed Nov 11 2026. No macro, syntax, notation, axiom, sorry.
-/
import Derived.Test.YtodmpmcnlbkhhaaDoorChecked
import GoSem.Claim
import GoSem.ClaimJoined
import GoSem.ClaimMapViews
import Derived.JoinedTies
import Derived.KernelRfl
namespace Go.Proofs.YtodmpmcnlbkhhaaDoor
/- THE CELL 'sum', in the pinned program and in every row, IS THE sha256 OF THE DUMP (.gsa) THAT YtodmpmcnlbkhhaaDoorProg.lean LOADS. Nothing in Lean hashes anything: it is a label: what it is worth is what the hold of that sum in a sandbox is worth. -/
noncomputable def Tryd.pinned : Pinned := { name := "ytodmpmcnlbkhhaadoor", sum := "681f8fc695e96c7c5ffda5b88bb1557f3bbc7e43cbb96f33feecde722b3e2613", checked := Tryd.checked }
namespace Rows
def none {H : Type} : Left H := { results := [], args := [] }

/- WHAT THE LISTED PACKAGE-LEVEL VARIABLES READ AS WHEN THE CALL BEGINS. Each datum BY PROGRAM (the guide's laid-datum.mjs) off the statement by which the dump's own 'gosem.cut.vars' lays the variable. In a bare row this is a premise. The card (YtodmpmcnlbkhhaaDoorCards.lean) ties it to the program's text. -/
def laid_computus_gregorian_lengths {H : Type} : DataW H := .agg [.lit (.int .i64 31), .lit (.int .i64 28), .lit (.int .i64 31), .lit (.int .i64 30), .lit (.int .i64 31), .lit (.int .i64 30), .lit (.int .i64 31), .lit (.int .i64 31), .lit (.int .i64 30), .lit (.int .i64 31), .lit (.int .i64 30), .lit (.int .i64 31)]
def laid_computus_gregorian_groups {H : Type} : DataW H := .agg [.agg [.lit (.int .i64 400), .lit (.int .i64 146097), .lit (.int .i64 2499999)], .agg [.lit (.int .i64 100), .lit (.int .i64 36524), .lit (.int .i64 3)], .agg [.lit (.int .i64 4), .lit (.int .i64 1461), .lit (.int .i64 24)], .agg [.lit (.int .i64 1), .lit (.int .i64 365), .lit (.int .i64 3)]]
def laid_computus_julian_lengths {H : Type} : DataW H := .agg [.lit (.int .i64 31), .lit (.int .i64 28), .lit (.int .i64 31), .lit (.int .i64 30), .lit (.int .i64 31), .lit (.int .i64 30), .lit (.int .i64 31), .lit (.int .i64 31), .lit (.int .i64 30), .lit (.int .i64 31), .lit (.int .i64 30), .lit (.int .i64 31)]
def laid_computus_label_lengths {H : Type} : DataW H := .agg [.lit (.int .i64 31), .lit (.int .i64 28), .lit (.int .i64 31), .lit (.int .i64 30), .lit (.int .i64 31), .lit (.int .i64 30), .lit (.int .i64 31), .lit (.int .i64 31), .lit (.int .i64 30), .lit (.int .i64 31), .lit (.int .i64 30), .lit (.int .i64 31)]
def laid_computus_label_beginnings {H : Type} : DataW H := .agg [.agg [.lit (.int .i64 1), .lit (.int .i64 1)], .agg [.lit (.int .i64 1), .lit (.int .i64 31)], .agg [.lit (.int .i64 3), .lit (.int .i64 1)], .agg [.lit (.int .i64 3), .lit (.int .i64 31)], .agg [.lit (.int .i64 4), .lit (.int .i64 29)], .agg [.lit (.int .i64 5), .lit (.int .i64 29)], .agg [.lit (.int .i64 6), .lit (.int .i64 27)], .agg [.lit (.int .i64 7), .lit (.int .i64 27)], .agg [.lit (.int .i64 8), .lit (.int .i64 25)], .agg [.lit (.int .i64 9), .lit (.int .i64 24)], .agg [.lit (.int .i64 10), .lit (.int .i64 23)], .agg [.lit (.int .i64 11), .lit (.int .i64 22)], .agg [.lit (.int .i64 12), .lit (.int .i64 21)]]

/-- 'computuslaw09.PaschalMatchesReference': WHATEVER THE INPUT: true; the input reads as it did. -/
def paschalMatchesReferenceSpec : ChangeSpec := { name := "paschalMatchesReference", fn := fun _ => fun
  | [d1, d2, d3] => { results := [.lit (.bool true)], args := [d1, d2, d3] }
  | _ => none }
def paschalMatchesReferenceRow : OpenClaim := { program := "ytodmpmcnlbkhhaadoor", sum := "681f8fc695e96c7c5ffda5b88bb1557f3bbc7e43cbb96f33feecde722b3e2613", func := "computus/computuslaw09.PaschalMatchesReference", spec := "paschalMatchesReference", unfollowed := true, recurses := true, named := ["computus/julian.lengths", "computus/gregorian.lengths", "computus/gregorian.groups", "computus/label.beginnings", "computus/label.lengths"], apart := false, laid := [("computus/gregorian.lengths", laid_computus_gregorian_lengths), ("computus/gregorian.groups", laid_computus_gregorian_groups), ("computus/julian.lengths", laid_computus_julian_lengths), ("computus/label.lengths", laid_computus_label_lengths), ("computus/label.beginnings", laid_computus_label_beginnings)] }
def PaschalMatchesReferenceSaid : Prop := paschalMatchesReferenceRow.holds Tryd.pinned (OpenSpec.ofChange paschalMatchesReferenceSpec)

/-- ITS FALSE NEIGHBOUR: 'it returns false'. Refute it at one input. -/
def paschalMatchesReferenceWrong : ChangeSpec := { name := "paschalMatchesReference", fn := fun _ => fun
  | [d1, d2, d3] => { results := [.lit (.bool false)], args := [d1, d2, d3] }
  | _ => none }
def PaschalMatchesReferenceWrongFalsely : Prop := paschalMatchesReferenceRow.holds Tryd.pinned (OpenSpec.ofChange paschalMatchesReferenceWrong)

/-- 'computuslaw09.PaschalIsTabular': WHATEVER THE INPUT: true; the input reads as it did. -/
def paschalIsTabularSpec : ChangeSpec := { name := "paschalIsTabular", fn := fun _ => fun
  | [d1, d2] => { results := [.lit (.bool true)], args := [d1, d2] }
  | _ => none }
def paschalIsTabularRow : OpenClaim := { program := "ytodmpmcnlbkhhaadoor", sum := "681f8fc695e96c7c5ffda5b88bb1557f3bbc7e43cbb96f33feecde722b3e2613", func := "computus/computuslaw09.PaschalIsTabular", spec := "paschalIsTabular", unfollowed := true, recurses := true, named := ["computus/julian.lengths", "computus/gregorian.lengths", "computus/gregorian.groups", "computus/label.beginnings", "computus/label.lengths"], apart := false, laid := [("computus/gregorian.lengths", laid_computus_gregorian_lengths), ("computus/gregorian.groups", laid_computus_gregorian_groups), ("computus/julian.lengths", laid_computus_julian_lengths), ("computus/label.lengths", laid_computus_label_lengths), ("computus/label.beginnings", laid_computus_label_beginnings)] }
def PaschalIsTabularSaid : Prop := paschalIsTabularRow.holds Tryd.pinned (OpenSpec.ofChange paschalIsTabularSpec)

/-- ITS FALSE NEIGHBOUR: 'it returns false'. Refute it at one input. -/
def paschalIsTabularWrong : ChangeSpec := { name := "paschalIsTabular", fn := fun _ => fun
  | [d1, d2] => { results := [.lit (.bool false)], args := [d1, d2] }
  | _ => none }
def PaschalIsTabularWrongFalsely : Prop := paschalIsTabularRow.holds Tryd.pinned (OpenSpec.ofChange paschalIsTabularWrong)

/-- 'computuslaw09.PaschalTables': WHATEVER THE INPUT: true; the input reads as it did. -/
def paschalTablesSpec : ChangeSpec := { name := "paschalTables", fn := fun _ => fun
  | [d1, d2, d3, d4] => { results := [.lit (.bool true)], args := [d1, d2, d3, d4] }
  | _ => none }
def paschalTablesRow : OpenClaim := { program := "ytodmpmcnlbkhhaadoor", sum := "681f8fc695e96c7c5ffda5b88bb1557f3bbc7e43cbb96f33feecde722b3e2613", func := "computus/computuslaw09.PaschalTables", spec := "paschalTables", unfollowed := true, recurses := true, named := ["computus/label.lengths", "computus/label.beginnings", "computus/julian.lengths", "computus/gregorian.lengths", "computus/gregorian.groups"], apart := false, laid := [("computus/gregorian.lengths", laid_computus_gregorian_lengths), ("computus/gregorian.groups", laid_computus_gregorian_groups), ("computus/julian.lengths", laid_computus_julian_lengths), ("computus/label.lengths", laid_computus_label_lengths), ("computus/label.beginnings", laid_computus_label_beginnings)] }
def PaschalTablesSaid : Prop := paschalTablesRow.holds Tryd.pinned (OpenSpec.ofChange paschalTablesSpec)

/-- ITS FALSE NEIGHBOUR: 'it returns false'. Refute it at one input. -/
def paschalTablesWrong : ChangeSpec := { name := "paschalTables", fn := fun _ => fun
  | [d1, d2, d3, d4] => { results := [.lit (.bool false)], args := [d1, d2, d3, d4] }
  | _ => none }
def PaschalTablesWrongFalsely : Prop := paschalTablesRow.holds Tryd.pinned (OpenSpec.ofChange paschalTablesWrong)

/-- 'computuslaw09.PaschalJulian': WHATEVER THE INPUT: true; the input reads as it did. -/
def paschalJulianSpec : ChangeSpec := { name := "paschalJulian", fn := fun _ => fun
  | [d1, d2] => { results := [.lit (.bool true)], args := [d1, d2] }
  | _ => none }
def paschalJulianRow : OpenClaim := { program := "ytodmpmcnlbkhhaadoor", sum := "681f8fc695e96c7c5ffda5b88bb1557f3bbc7e43cbb96f33feecde722b3e2613", func := "computus/computuslaw09.PaschalJulian", spec := "paschalJulian", unfollowed := true, recurses := true, named := ["computus/julian.lengths", "computus/gregorian.lengths", "computus/gregorian.groups", "computus/label.beginnings", "computus/label.lengths"], apart := false, laid := [("computus/gregorian.lengths", laid_computus_gregorian_lengths), ("computus/gregorian.groups", laid_computus_gregorian_groups), ("computus/julian.lengths", laid_computus_julian_lengths), ("computus/label.lengths", laid_computus_label_lengths), ("computus/label.beginnings", laid_computus_label_beginnings)] }
def PaschalJulianSaid : Prop := paschalJulianRow.holds Tryd.pinned (OpenSpec.ofChange paschalJulianSpec)

/-- ITS FALSE NEIGHBOUR: 'it returns false'. Refute it at one input. -/
def paschalJulianWrong : ChangeSpec := { name := "paschalJulian", fn := fun _ => fun
  | [d1, d2] => { results := [.lit (.bool false)], args := [d1, d2] }
  | _ => none }
def PaschalJulianWrongFalsely : Prop := paschalJulianRow.holds Tryd.pinned (OpenSpec.ofChange paschalJulianWrong)

/-- 'computuslaw09.PaschalMonths': WHATEVER THE INPUT: true; the input reads as it did. -/
def paschalMonthsSpec : ChangeSpec := { name := "paschalMonths", fn := fun _ => fun
  | [d1, d2, d3] => { results := [.lit (.bool true)], args := [d1, d2, d3] }
  | _ => none }
def paschalMonthsRow : OpenClaim := { program := "ytodmpmcnlbkhhaadoor", sum := "681f8fc695e96c7c5ffda5b88bb1557f3bbc7e43cbb96f33feecde722b3e2613", func := "computus/computuslaw09.PaschalMonths", spec := "paschalMonths", unfollowed := true, recurses := true, named := ["computus/julian.lengths", "computus/gregorian.lengths", "computus/gregorian.groups", "computus/label.beginnings", "computus/label.lengths"], apart := false, laid := [("computus/gregorian.lengths", laid_computus_gregorian_lengths), ("computus/gregorian.groups", laid_computus_gregorian_groups), ("computus/julian.lengths", laid_computus_julian_lengths), ("computus/label.lengths", laid_computus_label_lengths), ("computus/label.beginnings", laid_computus_label_beginnings)] }
def PaschalMonthsSaid : Prop := paschalMonthsRow.holds Tryd.pinned (OpenSpec.ofChange paschalMonthsSpec)

/-- ITS FALSE NEIGHBOUR: 'it returns false'. Refute it at one input. -/
def paschalMonthsWrong : ChangeSpec := { name := "paschalMonths", fn := fun _ => fun
  | [d1, d2, d3] => { results := [.lit (.bool false)], args := [d1, d2, d3] }
  | _ => none }
def PaschalMonthsWrongFalsely : Prop := paschalMonthsRow.holds Tryd.pinned (OpenSpec.ofChange paschalMonthsWrong)

/- THE SECOND FORM. 'bulk': how many values and letters a reading holds, each counted each time it is reached (what is shared counts as often as it is met; a slice's spare places count too). A statement '..UptoSaid' is the law's where the arguments, and the package variables that the reading takes, are together of bulk at most 1048576: NARROWER than '..Said'. Prove '..Said' where nothing that the law and all that it calls make is longer than what came in: it says more and counts as full. Else prove '..UptoSaid'. A law counts once. -/
mutual
def uptoBulk {H : Type} : DataW H → Nat
  | .lit (.string bytes) => bytes.length + 1
  | .lit _ => 1
  | .nil => 1
  | .ptr d => uptoBulk d + 1
  | .slice elems spare => uptoBulkAll elems + uptoBulkAll spare + 1
  | .agg parts => uptoBulkAll parts + 1
  | .iface _ d => uptoBulk d + 1
  | .map entries => uptoBulkEntries entries + 1
  | .held _ => 1
def uptoBulkAll {H : Type} : List (DataW H) → Nat
  | [] => 0
  | d :: r => uptoBulk d + uptoBulkAll r
def uptoBulkEntries {H : Type} : List (Lit × DataW H) → Nat
  | [] => 0
  | x :: r => uptoBulkEntry x + uptoBulkEntries r
def uptoBulkEntry {H : Type} : Lit × DataW H → Nat
  | (.string bytes, d) => bytes.length + uptoBulk d + 1
  | (_, d) => uptoBulk d + 1
 end
def uptoSmall : (H : Type) → List (DataW H) → Bool := fun _ ds => decide (uptoBulkAll ds ≤ 1048576)
def OpenSpec.upto (s : _root_.Go.ChangeSpec) : _root_.Go.OpenSpec := { _root_.Go.OpenSpec.ofChange s with cond := some uptoSmall }

/-- 'computuslaw09.PaschalMatchesReference', WHERE WHAT IT READS IS OF BULK AT MOST 1048576: true; the input reads as it did. -/
def paschalMatchesReferenceUptoRow : OpenClaim := { program := "ytodmpmcnlbkhhaadoor", sum := "681f8fc695e96c7c5ffda5b88bb1557f3bbc7e43cbb96f33feecde722b3e2613", func := "computus/computuslaw09.PaschalMatchesReference", spec := "paschalMatchesReference", unfollowed := true, recurses := true, named := ["computus/julian.lengths", "computus/gregorian.lengths", "computus/gregorian.groups", "computus/label.beginnings", "computus/label.lengths"], apart := false, laid := [("computus/gregorian.lengths", laid_computus_gregorian_lengths), ("computus/gregorian.groups", laid_computus_gregorian_groups), ("computus/julian.lengths", laid_computus_julian_lengths), ("computus/label.lengths", laid_computus_label_lengths), ("computus/label.beginnings", laid_computus_label_beginnings)], narrowed := true }
def PaschalMatchesReferenceUptoSaid : Prop := paschalMatchesReferenceUptoRow.holds Tryd.pinned (OpenSpec.upto paschalMatchesReferenceSpec)

/-- 'computuslaw09.PaschalIsTabular', WHERE WHAT IT READS IS OF BULK AT MOST 1048576: true; the input reads as it did. -/
def paschalIsTabularUptoRow : OpenClaim := { program := "ytodmpmcnlbkhhaadoor", sum := "681f8fc695e96c7c5ffda5b88bb1557f3bbc7e43cbb96f33feecde722b3e2613", func := "computus/computuslaw09.PaschalIsTabular", spec := "paschalIsTabular", unfollowed := true, recurses := true, named := ["computus/julian.lengths", "computus/gregorian.lengths", "computus/gregorian.groups", "computus/label.beginnings", "computus/label.lengths"], apart := false, laid := [("computus/gregorian.lengths", laid_computus_gregorian_lengths), ("computus/gregorian.groups", laid_computus_gregorian_groups), ("computus/julian.lengths", laid_computus_julian_lengths), ("computus/label.lengths", laid_computus_label_lengths), ("computus/label.beginnings", laid_computus_label_beginnings)], narrowed := true }
def PaschalIsTabularUptoSaid : Prop := paschalIsTabularUptoRow.holds Tryd.pinned (OpenSpec.upto paschalIsTabularSpec)

/-- 'computuslaw09.PaschalTables', WHERE WHAT IT READS IS OF BULK AT MOST 1048576: true; the input reads as it did. -/
def paschalTablesUptoRow : OpenClaim := { program := "ytodmpmcnlbkhhaadoor", sum := "681f8fc695e96c7c5ffda5b88bb1557f3bbc7e43cbb96f33feecde722b3e2613", func := "computus/computuslaw09.PaschalTables", spec := "paschalTables", unfollowed := true, recurses := true, named := ["computus/label.lengths", "computus/label.beginnings", "computus/julian.lengths", "computus/gregorian.lengths", "computus/gregorian.groups"], apart := false, laid := [("computus/gregorian.lengths", laid_computus_gregorian_lengths), ("computus/gregorian.groups", laid_computus_gregorian_groups), ("computus/julian.lengths", laid_computus_julian_lengths), ("computus/label.lengths", laid_computus_label_lengths), ("computus/label.beginnings", laid_computus_label_beginnings)], narrowed := true }
def PaschalTablesUptoSaid : Prop := paschalTablesUptoRow.holds Tryd.pinned (OpenSpec.upto paschalTablesSpec)

/-- 'computuslaw09.PaschalJulian', WHERE WHAT IT READS IS OF BULK AT MOST 1048576: true; the input reads as it did. -/
def paschalJulianUptoRow : OpenClaim := { program := "ytodmpmcnlbkhhaadoor", sum := "681f8fc695e96c7c5ffda5b88bb1557f3bbc7e43cbb96f33feecde722b3e2613", func := "computus/computuslaw09.PaschalJulian", spec := "paschalJulian", unfollowed := true, recurses := true, named := ["computus/julian.lengths", "computus/gregorian.lengths", "computus/gregorian.groups", "computus/label.beginnings", "computus/label.lengths"], apart := false, laid := [("computus/gregorian.lengths", laid_computus_gregorian_lengths), ("computus/gregorian.groups", laid_computus_gregorian_groups), ("computus/julian.lengths", laid_computus_julian_lengths), ("computus/label.lengths", laid_computus_label_lengths), ("computus/label.beginnings", laid_computus_label_beginnings)], narrowed := true }
def PaschalJulianUptoSaid : Prop := paschalJulianUptoRow.holds Tryd.pinned (OpenSpec.upto paschalJulianSpec)

/-- 'computuslaw09.PaschalMonths', WHERE WHAT IT READS IS OF BULK AT MOST 1048576: true; the input reads as it did. -/
def paschalMonthsUptoRow : OpenClaim := { program := "ytodmpmcnlbkhhaadoor", sum := "681f8fc695e96c7c5ffda5b88bb1557f3bbc7e43cbb96f33feecde722b3e2613", func := "computus/computuslaw09.PaschalMonths", spec := "paschalMonths", unfollowed := true, recurses := true, named := ["computus/julian.lengths", "computus/gregorian.lengths", "computus/gregorian.groups", "computus/label.beginnings", "computus/label.lengths"], apart := false, laid := [("computus/gregorian.lengths", laid_computus_gregorian_lengths), ("computus/gregorian.groups", laid_computus_gregorian_groups), ("computus/julian.lengths", laid_computus_julian_lengths), ("computus/label.lengths", laid_computus_label_lengths), ("computus/label.beginnings", laid_computus_label_beginnings)], narrowed := true }
def PaschalMonthsUptoSaid : Prop := paschalMonthsUptoRow.holds Tryd.pinned (OpenSpec.upto paschalMonthsSpec)

end Rows
end Go.Proofs.YtodmpmcnlbkhhaaDoor
