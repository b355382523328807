/-
  NARROWER THAN 'FOR EVERY INPUT', by the rows' own cells (each row's printed sentence says how): OrthodoxIsSameDay: laid · OrthodoxGap: laid · OrthodoxDelay: laid · OrthodoxCentury: laid.
  DERIVED. THE GIVEN ROWS OF THIS SEAT. 4 by the template 'for every input the law returns true; each argument reads behind the call as it read before'; 0 by the template 'total and deterministic' (their statements: YtnfeihbkemgecaaDoorTotals.lean).
  GIVEN WITH THE SEED: the statements are not yours to turn. If you find one false, say at which input.
  Laid BY PROGRAM, IN A SANDBOX (cutbox-rows.mjs): the forced cells as the released guide's own fill.sh prints them over the translation a79843cc27d75fcb… (all of the seat's roots in one cut). By AI agents, Wed Nov 11 2026. No macro, syntax, notation, axiom, sorry.
-/
import Derived.Test.YtnfeihbkemgecaaDoorChecked
import GoSem.Claim
import GoSem.ClaimJoined
import GoSem.ClaimMapViews
import Derived.JoinedTies
import Derived.KernelRfl
namespace Go.Proofs.YtnfeihbkemgecaaDoor
/- THE CELL 'sum', in the pinned program and in every row, IS THE sha256 OF THE DUMP (.gsa) THAT YtnfeihbkemgecaaDoorProg.lean LOADS. Nothing in Lean hashes anything: it is a label: what it is worth is what the hold of that sum in a sandbox is worth. -/
noncomputable def Tryd.pinned : Pinned := { name := "ytnfeihbkemgecaadoor", sum := "a79843cc27d75fcb11f7ef21330e946496778cae288931c96d43c85637d43b4a", checked := Tryd.checked }
namespace Rows
def none {H : Type} : Left H := { results := [], args := [] }

/- WHAT THE LISTED PACKAGE-LEVEL VARIABLES READ AS WHEN THE CALL BEGINS. Each datum BY PROGRAM (the guide's laid-datum.mjs) off the statement by which the dump's own 'gosem.cut.vars' lays the variable. In a bare row this is a premise. The card (YtnfeihbkemgecaaDoorCards.lean) ties it to the program's text. -/
def laid_computus_gregorian_lengths {H : Type} : DataW H := .agg [.lit (.int .i64 31), .lit (.int .i64 28), .lit (.int .i64 31), .lit (.int .i64 30), .lit (.int .i64 31), .lit (.int .i64 30), .lit (.int .i64 31), .lit (.int .i64 31), .lit (.int .i64 30), .lit (.int .i64 31), .lit (.int .i64 30), .lit (.int .i64 31)]
def laid_computus_gregorian_groups {H : Type} : DataW H := .agg [.agg [.lit (.int .i64 400), .lit (.int .i64 146097), .lit (.int .i64 2499999)], .agg [.lit (.int .i64 100), .lit (.int .i64 36524), .lit (.int .i64 3)], .agg [.lit (.int .i64 4), .lit (.int .i64 1461), .lit (.int .i64 24)], .agg [.lit (.int .i64 1), .lit (.int .i64 365), .lit (.int .i64 3)]]
def laid_computus_julian_lengths {H : Type} : DataW H := .agg [.lit (.int .i64 31), .lit (.int .i64 28), .lit (.int .i64 31), .lit (.int .i64 30), .lit (.int .i64 31), .lit (.int .i64 30), .lit (.int .i64 31), .lit (.int .i64 31), .lit (.int .i64 30), .lit (.int .i64 31), .lit (.int .i64 30), .lit (.int .i64 31)]
def laid_computus_label_lengths {H : Type} : DataW H := .agg [.lit (.int .i64 31), .lit (.int .i64 28), .lit (.int .i64 31), .lit (.int .i64 30), .lit (.int .i64 31), .lit (.int .i64 30), .lit (.int .i64 31), .lit (.int .i64 31), .lit (.int .i64 30), .lit (.int .i64 31), .lit (.int .i64 30), .lit (.int .i64 31)]
def laid_computus_label_beginnings {H : Type} : DataW H := .agg [.agg [.lit (.int .i64 1), .lit (.int .i64 1)], .agg [.lit (.int .i64 1), .lit (.int .i64 31)], .agg [.lit (.int .i64 3), .lit (.int .i64 1)], .agg [.lit (.int .i64 3), .lit (.int .i64 31)], .agg [.lit (.int .i64 4), .lit (.int .i64 29)], .agg [.lit (.int .i64 5), .lit (.int .i64 29)], .agg [.lit (.int .i64 6), .lit (.int .i64 27)], .agg [.lit (.int .i64 7), .lit (.int .i64 27)], .agg [.lit (.int .i64 8), .lit (.int .i64 25)], .agg [.lit (.int .i64 9), .lit (.int .i64 24)], .agg [.lit (.int .i64 10), .lit (.int .i64 23)], .agg [.lit (.int .i64 11), .lit (.int .i64 22)], .agg [.lit (.int .i64 12), .lit (.int .i64 21)]]

/-- 'computuslaw13.OrthodoxIsSameDay': WHATEVER THE INPUT: true; the input reads as it did. -/
def orthodoxIsSameDaySpec : ChangeSpec := { name := "orthodoxIsSameDay", fn := fun _ => fun
  | [d] => { results := [.lit (.bool true)], args := [d] }
  | _ => none }
def orthodoxIsSameDayRow : OpenClaim := { program := "ytnfeihbkemgecaadoor", sum := "a79843cc27d75fcb11f7ef21330e946496778cae288931c96d43c85637d43b4a", func := "computus/computuslaw13.OrthodoxIsSameDay", spec := "orthodoxIsSameDay", unfollowed := true, recurses := true, named := ["computus/julian.lengths", "computus/gregorian.lengths", "computus/gregorian.groups", "computus/label.beginnings", "computus/label.lengths"], apart := false, laid := [("computus/gregorian.lengths", laid_computus_gregorian_lengths), ("computus/gregorian.groups", laid_computus_gregorian_groups), ("computus/julian.lengths", laid_computus_julian_lengths), ("computus/label.lengths", laid_computus_label_lengths), ("computus/label.beginnings", laid_computus_label_beginnings)] }
def OrthodoxIsSameDaySaid : Prop := orthodoxIsSameDayRow.holds Tryd.pinned (OpenSpec.ofChange orthodoxIsSameDaySpec)

/-- ITS FALSE NEIGHBOUR: 'it returns false'. Refute it at one input. -/
def orthodoxIsSameDayWrong : ChangeSpec := { name := "orthodoxIsSameDay", fn := fun _ => fun
  | [d] => { results := [.lit (.bool false)], args := [d] }
  | _ => none }
def OrthodoxIsSameDayWrongFalsely : Prop := orthodoxIsSameDayRow.holds Tryd.pinned (OpenSpec.ofChange orthodoxIsSameDayWrong)

/-- 'computuslaw13.OrthodoxGap': WHATEVER THE INPUT: true; the input reads as it did. -/
def orthodoxGapSpec : ChangeSpec := { name := "orthodoxGap", fn := fun _ => fun
  | [d] => { results := [.lit (.bool true)], args := [d] }
  | _ => none }
def orthodoxGapRow : OpenClaim := { program := "ytnfeihbkemgecaadoor", sum := "a79843cc27d75fcb11f7ef21330e946496778cae288931c96d43c85637d43b4a", func := "computus/computuslaw13.OrthodoxGap", spec := "orthodoxGap", unfollowed := true, recurses := true, named := ["computus/julian.lengths", "computus/gregorian.lengths", "computus/gregorian.groups", "computus/label.beginnings", "computus/label.lengths"], apart := false, laid := [("computus/gregorian.lengths", laid_computus_gregorian_lengths), ("computus/gregorian.groups", laid_computus_gregorian_groups), ("computus/julian.lengths", laid_computus_julian_lengths), ("computus/label.lengths", laid_computus_label_lengths), ("computus/label.beginnings", laid_computus_label_beginnings)] }
def OrthodoxGapSaid : Prop := orthodoxGapRow.holds Tryd.pinned (OpenSpec.ofChange orthodoxGapSpec)

/-- ITS FALSE NEIGHBOUR: 'it returns false'. Refute it at one input. -/
def orthodoxGapWrong : ChangeSpec := { name := "orthodoxGap", fn := fun _ => fun
  | [d] => { results := [.lit (.bool false)], args := [d] }
  | _ => none }
def OrthodoxGapWrongFalsely : Prop := orthodoxGapRow.holds Tryd.pinned (OpenSpec.ofChange orthodoxGapWrong)

/-- 'computuslaw13.OrthodoxDelay': WHATEVER THE INPUT: true; the input reads as it did. -/
def orthodoxDelaySpec : ChangeSpec := { name := "orthodoxDelay", fn := fun _ => fun
  | [d] => { results := [.lit (.bool true)], args := [d] }
  | _ => none }
def orthodoxDelayRow : OpenClaim := { program := "ytnfeihbkemgecaadoor", sum := "a79843cc27d75fcb11f7ef21330e946496778cae288931c96d43c85637d43b4a", func := "computus/computuslaw13.OrthodoxDelay", spec := "orthodoxDelay", unfollowed := true, recurses := true, named := ["computus/julian.lengths", "computus/gregorian.lengths", "computus/gregorian.groups", "computus/label.beginnings", "computus/label.lengths"], apart := false, laid := [("computus/gregorian.lengths", laid_computus_gregorian_lengths), ("computus/gregorian.groups", laid_computus_gregorian_groups), ("computus/julian.lengths", laid_computus_julian_lengths), ("computus/label.lengths", laid_computus_label_lengths), ("computus/label.beginnings", laid_computus_label_beginnings)] }
def OrthodoxDelaySaid : Prop := orthodoxDelayRow.holds Tryd.pinned (OpenSpec.ofChange orthodoxDelaySpec)

/-- ITS FALSE NEIGHBOUR: 'it returns false'. Refute it at one input. -/
def orthodoxDelayWrong : ChangeSpec := { name := "orthodoxDelay", fn := fun _ => fun
  | [d] => { results := [.lit (.bool false)], args := [d] }
  | _ => none }
def OrthodoxDelayWrongFalsely : Prop := orthodoxDelayRow.holds Tryd.pinned (OpenSpec.ofChange orthodoxDelayWrong)

/-- 'computuslaw13.OrthodoxCentury': WHATEVER THE INPUT: true; the input reads as it did. -/
def orthodoxCenturySpec : ChangeSpec := { name := "orthodoxCentury", fn := fun _ => fun
  | [d] => { results := [.lit (.bool true)], args := [d] }
  | _ => none }
def orthodoxCenturyRow : OpenClaim := { program := "ytnfeihbkemgecaadoor", sum := "a79843cc27d75fcb11f7ef21330e946496778cae288931c96d43c85637d43b4a", func := "computus/computuslaw13.OrthodoxCentury", spec := "orthodoxCentury", unfollowed := true, recurses := true, named := ["computus/julian.lengths", "computus/gregorian.lengths", "computus/gregorian.groups", "computus/label.beginnings", "computus/label.lengths"], apart := false, laid := [("computus/gregorian.lengths", laid_computus_gregorian_lengths), ("computus/gregorian.groups", laid_computus_gregorian_groups), ("computus/julian.lengths", laid_computus_julian_lengths), ("computus/label.lengths", laid_computus_label_lengths), ("computus/label.beginnings", laid_computus_label_beginnings)] }
def OrthodoxCenturySaid : Prop := orthodoxCenturyRow.holds Tryd.pinned (OpenSpec.ofChange orthodoxCenturySpec)

/-- ITS FALSE NEIGHBOUR: 'it returns false'. Refute it at one input. -/
def orthodoxCenturyWrong : ChangeSpec := { name := "orthodoxCentury", fn := fun _ => fun
  | [d] => { results := [.lit (.bool false)], args := [d] }
  | _ => none }
def OrthodoxCenturyWrongFalsely : Prop := orthodoxCenturyRow.holds Tryd.pinned (OpenSpec.ofChange orthodoxCenturyWrong)

/- THE SECOND FORM. 'bulk': how many values and letters a reading holds, each counted each time it is reached (what is shared counts as often as it is met; a slice's spare places count too). A statement '..UptoSaid' is the law's where the arguments, and the package variables that the reading takes, are together of bulk at most 1048576: NARROWER than '..Said'. Prove '..Said' where nothing that the law and all that it calls make is longer than what came in: it says more and counts as full. Else prove '..UptoSaid'. A law counts once. -/
mutual
def uptoBulk {H : Type} : DataW H → Nat
  | .lit (.string bytes) => bytes.length + 1
  | .lit _ => 1
  | .nil => 1
  | .ptr d => uptoBulk d + 1
  | .slice elems spare => uptoBulkAll elems + uptoBulkAll spare + 1
  | .agg parts => uptoBulkAll parts + 1
  | .iface _ d => uptoBulk d + 1
  | .map entries => uptoBulkEntries entries + 1
  | .held _ => 1
def uptoBulkAll {H : Type} : List (DataW H) → Nat
  | [] => 0
  | d :: r => uptoBulk d + uptoBulkAll r
def uptoBulkEntries {H : Type} : List (Lit × DataW H) → Nat
  | [] => 0
  | x :: r => uptoBulkEntry x + uptoBulkEntries r
def uptoBulkEntry {H : Type} : Lit × DataW H → Nat
  | (.string bytes, d) => bytes.length + uptoBulk d + 1
  | (_, d) => uptoBulk d + 1
 end
def uptoSmall : (H : Type) → List (DataW H) → Bool := fun _ ds => decide (uptoBulkAll ds ≤ 1048576)
def OpenSpec.upto (s : _root_.Go.ChangeSpec) : _root_.Go.OpenSpec := { _root_.Go.OpenSpec.ofChange s with cond := some uptoSmall }

/-- 'computuslaw13.OrthodoxIsSameDay', WHERE WHAT IT READS IS OF BULK AT MOST 1048576: true; the input reads as it did. -/
def orthodoxIsSameDayUptoRow : OpenClaim := { program := "ytnfeihbkemgecaadoor", sum := "a79843cc27d75fcb11f7ef21330e946496778cae288931c96d43c85637d43b4a", func := "computus/computuslaw13.OrthodoxIsSameDay", spec := "orthodoxIsSameDay", unfollowed := true, recurses := true, named := ["computus/julian.lengths", "computus/gregorian.lengths", "computus/gregorian.groups", "computus/label.beginnings", "computus/label.lengths"], apart := false, laid := [("computus/gregorian.lengths", laid_computus_gregorian_lengths), ("computus/gregorian.groups", laid_computus_gregorian_groups), ("computus/julian.lengths", laid_computus_julian_lengths), ("computus/label.lengths", laid_computus_label_lengths), ("computus/label.beginnings", laid_computus_label_beginnings)], narrowed := true }
def OrthodoxIsSameDayUptoSaid : Prop := orthodoxIsSameDayUptoRow.holds Tryd.pinned (OpenSpec.upto orthodoxIsSameDaySpec)

/-- 'computuslaw13.OrthodoxGap', WHERE WHAT IT READS IS OF BULK AT MOST 1048576: true; the input reads as it did. -/
def orthodoxGapUptoRow : OpenClaim := { program := "ytnfeihbkemgecaadoor", sum := "a79843cc27d75fcb11f7ef21330e946496778cae288931c96d43c85637d43b4a", func := "computus/computuslaw13.OrthodoxGap", spec := "orthodoxGap", unfollowed := true, recurses := true, named := ["computus/julian.lengths", "computus/gregorian.lengths", "computus/gregorian.groups", "computus/label.beginnings", "computus/label.lengths"], apart := false, laid := [("computus/gregorian.lengths", laid_computus_gregorian_lengths), ("computus/gregorian.groups", laid_computus_gregorian_groups), ("computus/julian.lengths", laid_computus_julian_lengths), ("computus/label.lengths", laid_computus_label_lengths), ("computus/label.beginnings", laid_computus_label_beginnings)], narrowed := true }
def OrthodoxGapUptoSaid : Prop := orthodoxGapUptoRow.holds Tryd.pinned (OpenSpec.upto orthodoxGapSpec)

/-- 'computuslaw13.OrthodoxDelay', WHERE WHAT IT READS IS OF BULK AT MOST 1048576: true; the input reads as it did. -/
def orthodoxDelayUptoRow : OpenClaim := { program := "ytnfeihbkemgecaadoor", sum := "a79843cc27d75fcb11f7ef21330e946496778cae288931c96d43c85637d43b4a", func := "computus/computuslaw13.OrthodoxDelay", spec := "orthodoxDelay", unfollowed := true, recurses := true, named := ["computus/julian.lengths", "computus/gregorian.lengths", "computus/gregorian.groups", "computus/label.beginnings", "computus/label.lengths"], apart := false, laid := [("computus/gregorian.lengths", laid_computus_gregorian_lengths), ("computus/gregorian.groups", laid_computus_gregorian_groups), ("computus/julian.lengths", laid_computus_julian_lengths), ("computus/label.lengths", laid_computus_label_lengths), ("computus/label.beginnings", laid_computus_label_beginnings)], narrowed := true }
def OrthodoxDelayUptoSaid : Prop := orthodoxDelayUptoRow.holds Tryd.pinned (OpenSpec.upto orthodoxDelaySpec)

/-- 'computuslaw13.OrthodoxCentury', WHERE WHAT IT READS IS OF BULK AT MOST 1048576: true; the input reads as it did. -/
def orthodoxCenturyUptoRow : OpenClaim := { program := "ytnfeihbkemgecaadoor", sum := "a79843cc27d75fcb11f7ef21330e946496778cae288931c96d43c85637d43b4a", func := "computus/computuslaw13.OrthodoxCentury", spec := "orthodoxCentury", unfollowed := true, recurses := true, named := ["computus/julian.lengths", "computus/gregorian.lengths", "computus/gregorian.groups", "computus/label.beginnings", "computus/label.lengths"], apart := false, laid := [("computus/gregorian.lengths", laid_computus_gregorian_lengths), ("computus/gregorian.groups", laid_computus_gregorian_groups), ("computus/julian.lengths", laid_computus_julian_lengths), ("computus/label.lengths", laid_computus_label_lengths), ("computus/label.beginnings", laid_computus_label_beginnings)], narrowed := true }
def OrthodoxCenturyUptoSaid : Prop := orthodoxCenturyUptoRow.holds Tryd.pinned (OpenSpec.upto orthodoxCenturySpec)

end Rows
end Go.Proofs.YtnfeihbkemgecaaDoor
