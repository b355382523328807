/-
  No cell of these rows narrows 'for every input' (looked for: loops, veiled, ifaces, maps, wideKeys, modest, calm, conditions, laid).
  DERIVED. THE GIVEN ROWS OF THIS SEAT. 3 by the template 'for every input the law returns true; each argument reads behind the call as it read before'; 0 by the template 'total and deterministic' (their statements: YtomoaolomddidaaTotals.lean).
  GIVEN WITH THE SEED: the statements are not yours to turn. If you find one false, say at which input.
  Laid BY PROGRAM, IN A SANDBOX (cutbox-rows.mjs): the forced cells as the released guide's own fill.sh prints them over the translation 7ad355bd9e0e91c6… (all of the seat's roots in one cut). By AI agents, Wed Nov 11 2026. No macro, syntax, notation, axiom, sorry.
-/
import Derived.Test.YtomoaolomddidaaChecked
import GoSem.Claim
import GoSem.ClaimJoined
import GoSem.ClaimMapViews
import Derived.JoinedTies
import Derived.KernelRfl
namespace Go.Proofs.Ytomoaolomddidaa
/- THE CELL 'sum', in the pinned program and in every row, IS THE sha256 OF THE DUMP (.gsa) THAT YtomoaolomddidaaProg.lean LOADS. Nothing in Lean hashes anything: it is a label: what it is worth is what the hold of that sum in a sandbox is worth. -/
noncomputable def Try.pinned : Pinned := { name := "ytomoaolomddidaa", sum := "7ad355bd9e0e91c6f9ce9aa8d70820a599c0c9e8d7321b323d95574762a252fb", checked := Try.checked }
namespace Rows
def none {H : Type} : Left H := { results := [], args := [] }

/-- 'computuslaw20.PrecedenceMatchesReference': WHATEVER THE INPUT: true; the input reads as it did. -/
def precedenceMatchesReferenceSpec : ChangeSpec := { name := "precedenceMatchesReference", fn := fun _ => fun
  | [d1, d2, d3] => { results := [.lit (.bool true)], args := [d1, d2, d3] }
  | _ => none }
def precedenceMatchesReferenceRow : OpenClaim := { program := "ytomoaolomddidaa", sum := "7ad355bd9e0e91c6f9ce9aa8d70820a599c0c9e8d7321b323d95574762a252fb", func := "computus/computuslaw20.PrecedenceMatchesReference", spec := "precedenceMatchesReference", unfollowed := true, recurses := true, apart := false }
def PrecedenceMatchesReferenceSaid : Prop := precedenceMatchesReferenceRow.holds Try.pinned (OpenSpec.ofChange precedenceMatchesReferenceSpec)

/-- ITS FALSE NEIGHBOUR: 'it returns false'. Refute it at one input. -/
def precedenceMatchesReferenceWrong : ChangeSpec := { name := "precedenceMatchesReference", fn := fun _ => fun
  | [d1, d2, d3] => { results := [.lit (.bool false)], args := [d1, d2, d3] }
  | _ => none }
def PrecedenceMatchesReferenceWrongFalsely : Prop := precedenceMatchesReferenceRow.holds Try.pinned (OpenSpec.ofChange precedenceMatchesReferenceWrong)

/-- 'computuslaw20.PrecedenceTotal': WHATEVER THE INPUT: true; the input reads as it did. -/
def precedenceTotalSpec : ChangeSpec := { name := "precedenceTotal", fn := fun _ => fun
  | [d1, d2, d3] => { results := [.lit (.bool true)], args := [d1, d2, d3] }
  | _ => none }
def precedenceTotalRow : OpenClaim := { program := "ytomoaolomddidaa", sum := "7ad355bd9e0e91c6f9ce9aa8d70820a599c0c9e8d7321b323d95574762a252fb", func := "computus/computuslaw20.PrecedenceTotal", spec := "precedenceTotal", unfollowed := true, recurses := true, apart := false }
def PrecedenceTotalSaid : Prop := precedenceTotalRow.holds Try.pinned (OpenSpec.ofChange precedenceTotalSpec)

/-- ITS FALSE NEIGHBOUR: 'it returns false'. Refute it at one input. -/
def precedenceTotalWrong : ChangeSpec := { name := "precedenceTotal", fn := fun _ => fun
  | [d1, d2, d3] => { results := [.lit (.bool false)], args := [d1, d2, d3] }
  | _ => none }
def PrecedenceTotalWrongFalsely : Prop := precedenceTotalRow.holds Try.pinned (OpenSpec.ofChange precedenceTotalWrong)

/-- 'computuslaw20.PrecedenceSorts': WHATEVER THE INPUT: true; the input reads as it did. -/
def precedenceSortsSpec : ChangeSpec := { name := "precedenceSorts", fn := fun _ => fun
  | [d1, d2] => { results := [.lit (.bool true)], args := [d1, d2] }
  | _ => none }
def precedenceSortsRow : OpenClaim := { program := "ytomoaolomddidaa", sum := "7ad355bd9e0e91c6f9ce9aa8d70820a599c0c9e8d7321b323d95574762a252fb", func := "computus/computuslaw20.PrecedenceSorts", spec := "precedenceSorts", unfollowed := true, recurses := true, apart := false }
def PrecedenceSortsSaid : Prop := precedenceSortsRow.holds Try.pinned (OpenSpec.ofChange precedenceSortsSpec)

/-- ITS FALSE NEIGHBOUR: 'it returns false'. Refute it at one input. -/
def precedenceSortsWrong : ChangeSpec := { name := "precedenceSorts", fn := fun _ => fun
  | [d1, d2] => { results := [.lit (.bool false)], args := [d1, d2] }
  | _ => none }
def PrecedenceSortsWrongFalsely : Prop := precedenceSortsRow.holds Try.pinned (OpenSpec.ofChange precedenceSortsWrong)

/- THE SECOND FORM. 'bulk': how many values and letters a reading holds, each counted each time it is reached (what is shared counts as often as it is met; a slice's spare places count too). A statement '..UptoSaid' is the law's where the arguments, and the package variables that the reading takes, are together of bulk at most 1048576: NARROWER than '..Said'. Prove '..Said' where nothing that the law and all that it calls make is longer than what came in: it says more and counts as full. Else prove '..UptoSaid'. A law counts once. -/
mutual
def uptoBulk {H : Type} : DataW H → Nat
  | .lit (.string bytes) => bytes.length + 1
  | .lit _ => 1
  | .nil => 1
  | .ptr d => uptoBulk d + 1
  | .slice elems spare => uptoBulkAll elems + uptoBulkAll spare + 1
  | .agg parts => uptoBulkAll parts + 1
  | .iface _ d => uptoBulk d + 1
  | .map entries => uptoBulkEntries entries + 1
  | .held _ => 1
def uptoBulkAll {H : Type} : List (DataW H) → Nat
  | [] => 0
  | d :: r => uptoBulk d + uptoBulkAll r
def uptoBulkEntries {H : Type} : List (Lit × DataW H) → Nat
  | [] => 0
  | x :: r => uptoBulkEntry x + uptoBulkEntries r
def uptoBulkEntry {H : Type} : Lit × DataW H → Nat
  | (.string bytes, d) => bytes.length + uptoBulk d + 1
  | (_, d) => uptoBulk d + 1
 end
def uptoSmall : (H : Type) → List (DataW H) → Bool := fun _ ds => decide (uptoBulkAll ds ≤ 1048576)
def OpenSpec.upto (s : _root_.Go.ChangeSpec) : _root_.Go.OpenSpec := { _root_.Go.OpenSpec.ofChange s with cond := some uptoSmall }

/-- 'computuslaw20.PrecedenceMatchesReference', WHERE WHAT IT READS IS OF BULK AT MOST 1048576: true; the input reads as it did. -/
def precedenceMatchesReferenceUptoRow : OpenClaim := { program := "ytomoaolomddidaa", sum := "7ad355bd9e0e91c6f9ce9aa8d70820a599c0c9e8d7321b323d95574762a252fb", func := "computus/computuslaw20.PrecedenceMatchesReference", spec := "precedenceMatchesReference", unfollowed := true, recurses := true, apart := false, narrowed := true }
def PrecedenceMatchesReferenceUptoSaid : Prop := precedenceMatchesReferenceUptoRow.holds Try.pinned (OpenSpec.upto precedenceMatchesReferenceSpec)

/-- 'computuslaw20.PrecedenceTotal', WHERE WHAT IT READS IS OF BULK AT MOST 1048576: true; the input reads as it did. -/
def precedenceTotalUptoRow : OpenClaim := { program := "ytomoaolomddidaa", sum := "7ad355bd9e0e91c6f9ce9aa8d70820a599c0c9e8d7321b323d95574762a252fb", func := "computus/computuslaw20.PrecedenceTotal", spec := "precedenceTotal", unfollowed := true, recurses := true, apart := false, narrowed := true }
def PrecedenceTotalUptoSaid : Prop := precedenceTotalUptoRow.holds Try.pinned (OpenSpec.upto precedenceTotalSpec)

/-- 'computuslaw20.PrecedenceSorts', WHERE WHAT IT READS IS OF BULK AT MOST 1048576: true; the input reads as it did. -/
def precedenceSortsUptoRow : OpenClaim := { program := "ytomoaolomddidaa", sum := "7ad355bd9e0e91c6f9ce9aa8d70820a599c0c9e8d7321b323d95574762a252fb", func := "computus/computuslaw20.PrecedenceSorts", spec := "precedenceSorts", unfollowed := true, recurses := true, apart := false, narrowed := true }
def PrecedenceSortsUptoSaid : Prop := precedenceSortsUptoRow.holds Try.pinned (OpenSpec.upto precedenceSortsSpec)

end Rows
end Go.Proofs.Ytomoaolomddidaa
