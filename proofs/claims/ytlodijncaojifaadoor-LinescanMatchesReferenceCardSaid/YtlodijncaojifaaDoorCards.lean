/-
  DERIVED. GIVEN WITH THE SEED: THE CARDS: each row of YtlodijncaojifaaDoorRows.lean that lists a variable, with what it lists TIED to the program's text (the seventh form; the later family's looks); each row that meets fmt, with fmt's text TOLD by the authors' own Lean function (tested against real Go, not proved from fmt's source: count such statements apart). THE CARD IS WHAT COUNTS. Prove the row's statement (the work); the ties are given (YtlodijncaojifaaDoorTie.lean); close each card by the builder's one call (the guide's Derived/Test/ToyasCard.lean, 'card_holds'). Laid BY PROGRAM, IN A SANDBOX (cutbox-door.mjs). By AI agents, Wed Nov 11 2026. No macro, syntax, notation, axiom, sorry.
-/
import Derived.Test.YtlodijncaojifaaDoorRows
import GoSem.ClaimSeven
namespace Go.Proofs.YtlodijncaojifaaDoor
namespace Rows

/-- THE TIED CARD OF 'computuslaw25.LinescanMatchesReference'. -/
def linescanMatchesReferenceCard : Claim7 := { stood := { row := linescanMatchesReferenceRow, standIns := [], harness := (true, "84c791fa1ab62609e79cadb0cea45f5868dc206f3ec57241e61fc33d6c28cba9"), looks := true }, kinds := [], alts := [], laidByText := true, laidKinds := [.data, .data, .data, .sentinel, .sentinel], laidTests := true, laidLooks := .later }
def LinescanMatchesReferenceCardSaid : Prop := Claim7.holds Tryd.pinned (.plain (OpenSpec.ofChange linescanMatchesReferenceSpec)) linescanMatchesReferenceCard

/-- THE TIED CARD OF 'computuslaw25.LinescanNumbers'. -/
def linescanNumbersCard : Claim7 := { stood := { row := linescanNumbersRow, standIns := [], harness := (true, "84c791fa1ab62609e79cadb0cea45f5868dc206f3ec57241e61fc33d6c28cba9"), looks := true }, kinds := [], alts := [], laidByText := true, laidKinds := [.data, .data, .data, .sentinel, .sentinel], laidTests := true, laidLooks := .later }
def LinescanNumbersCardSaid : Prop := Claim7.holds Tryd.pinned (.plain (OpenSpec.ofChange linescanNumbersSpec)) linescanNumbersCard

/-- THE TIED CARD OF 'computuslaw25.LinescanIdentifiers'. -/
def linescanIdentifiersCard : Claim7 := { stood := { row := linescanIdentifiersRow, standIns := [], harness := (true, "84c791fa1ab62609e79cadb0cea45f5868dc206f3ec57241e61fc33d6c28cba9"), looks := true }, kinds := [], alts := [], laidByText := true, laidKinds := [.data, .data, .data, .sentinel, .sentinel], laidTests := true, laidLooks := .later }
def LinescanIdentifiersCardSaid : Prop := Claim7.holds Tryd.pinned (.plain (OpenSpec.ofChange linescanIdentifiersSpec)) linescanIdentifiersCard

/-- THE TIED CARD OF 'computuslaw25.LinescanOffset'. -/
def linescanOffsetCard : Claim7 := { stood := { row := linescanOffsetRow, standIns := [], harness := (true, "84c791fa1ab62609e79cadb0cea45f5868dc206f3ec57241e61fc33d6c28cba9"), looks := true }, kinds := [], alts := [], laidByText := true, laidKinds := [.data, .data, .data, .sentinel, .sentinel], laidTests := true, laidLooks := .later }
def LinescanOffsetCardSaid : Prop := Claim7.holds Tryd.pinned (.plain (OpenSpec.ofChange linescanOffsetSpec)) linescanOffsetCard

/-- THE SECOND FORM's CARD OF 'computuslaw25.LinescanMatchesReference'. -/
def linescanMatchesReferenceUptoCard : Claim7 := { stood := { row := linescanMatchesReferenceUptoRow, standIns := [], harness := (true, "84c791fa1ab62609e79cadb0cea45f5868dc206f3ec57241e61fc33d6c28cba9"), looks := true }, kinds := [], alts := [], laidByText := true, laidKinds := [.data, .data, .data, .sentinel, .sentinel], laidTests := true, laidLooks := .later }
def LinescanMatchesReferenceUptoCardSaid : Prop := Claim7.holds Tryd.pinned (.plain (OpenSpec.upto linescanMatchesReferenceSpec)) linescanMatchesReferenceUptoCard

/-- THE SECOND FORM's CARD OF 'computuslaw25.LinescanNumbers'. -/
def linescanNumbersUptoCard : Claim7 := { stood := { row := linescanNumbersUptoRow, standIns := [], harness := (true, "84c791fa1ab62609e79cadb0cea45f5868dc206f3ec57241e61fc33d6c28cba9"), looks := true }, kinds := [], alts := [], laidByText := true, laidKinds := [.data, .data, .data, .sentinel, .sentinel], laidTests := true, laidLooks := .later }
def LinescanNumbersUptoCardSaid : Prop := Claim7.holds Tryd.pinned (.plain (OpenSpec.upto linescanNumbersSpec)) linescanNumbersUptoCard

/-- THE SECOND FORM's CARD OF 'computuslaw25.LinescanIdentifiers'. -/
def linescanIdentifiersUptoCard : Claim7 := { stood := { row := linescanIdentifiersUptoRow, standIns := [], harness := (true, "84c791fa1ab62609e79cadb0cea45f5868dc206f3ec57241e61fc33d6c28cba9"), looks := true }, kinds := [], alts := [], laidByText := true, laidKinds := [.data, .data, .data, .sentinel, .sentinel], laidTests := true, laidLooks := .later }
def LinescanIdentifiersUptoCardSaid : Prop := Claim7.holds Tryd.pinned (.plain (OpenSpec.upto linescanIdentifiersSpec)) linescanIdentifiersUptoCard

/-- THE SECOND FORM's CARD OF 'computuslaw25.LinescanOffset'. -/
def linescanOffsetUptoCard : Claim7 := { stood := { row := linescanOffsetUptoRow, standIns := [], harness := (true, "84c791fa1ab62609e79cadb0cea45f5868dc206f3ec57241e61fc33d6c28cba9"), looks := true }, kinds := [], alts := [], laidByText := true, laidKinds := [.data, .data, .data, .sentinel, .sentinel], laidTests := true, laidLooks := .later }
def LinescanOffsetUptoCardSaid : Prop := Claim7.holds Tryd.pinned (.plain (OpenSpec.upto linescanOffsetSpec)) linescanOffsetUptoCard
end Rows
end Go.Proofs.YtlodijncaojifaaDoor
