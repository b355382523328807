/-
  DERIVED. GIVEN WITH THE SEED: THE CARDS: each row of YtclnpnkjldddcaaDoorRows.lean that lists a variable, with what it lists TIED to the program's text (the seventh form; the later family's looks); each row that meets fmt, with fmt's text TOLD by the authors' own Lean function (tested against real Go, not proved from fmt's source: count such statements apart). THE CARD IS WHAT COUNTS. Prove the row's statement (the work); the ties are given (YtclnpnkjldddcaaDoorTie.lean); close each card by the builder's one call (the guide's Derived/Test/ToyasCard.lean, 'card_holds'). Laid BY PROGRAM, IN A SANDBOX (cutbox-door.mjs). By AI agents, Wed Nov 11 2026. No macro, syntax, notation, axiom, sorry.
-/
import Derived.Test.YtclnpnkjldddcaaDoorRows
import GoSem.ClaimSeven
namespace Go.Proofs.YtclnpnkjldddcaaDoor
namespace Rows

/-- THE TIED CARD OF 'computuslaw06.GoldenMatchesReference'. -/
def goldenMatchesReferenceCard : Claim7 := { stood := { row := goldenMatchesReferenceRow, standIns := [], harness := (true, "bff6ddbdc39f65526b6d7b9580cc599cc37756fb6942dc449d115ae4e50ae4ed"), looks := false }, kinds := [], alts := [], laidByText := true, laidKinds := [.data, .data, .data], laidTests := true, laidLooks := .later }
def GoldenMatchesReferenceCardSaid : Prop := Claim7.holds Tryd.pinned (.plain (OpenSpec.ofChange goldenMatchesReferenceSpec)) goldenMatchesReferenceCard

/-- THE TIED CARD OF 'computuslaw06.GoldenCycle'. -/
def goldenCycleCard : Claim7 := { stood := { row := goldenCycleRow, standIns := [], harness := (true, "bff6ddbdc39f65526b6d7b9580cc599cc37756fb6942dc449d115ae4e50ae4ed"), looks := false }, kinds := [], alts := [], laidByText := true, laidKinds := [.data, .data, .data], laidTests := true, laidLooks := .later }
def GoldenCycleCardSaid : Prop := Claim7.holds Tryd.pinned (.plain (OpenSpec.ofChange goldenCycleSpec)) goldenCycleCard

/-- THE TIED CARD OF 'computuslaw06.GoldenCorrections'. -/
def goldenCorrectionsCard : Claim7 := { stood := { row := goldenCorrectionsRow, standIns := [], harness := (true, "bff6ddbdc39f65526b6d7b9580cc599cc37756fb6942dc449d115ae4e50ae4ed"), looks := false }, kinds := [], alts := [], laidByText := true, laidKinds := [.data, .data, .data], laidTests := true, laidLooks := .later }
def GoldenCorrectionsCardSaid : Prop := Claim7.holds Tryd.pinned (.plain (OpenSpec.ofChange goldenCorrectionsSpec)) goldenCorrectionsCard

/-- THE TIED CARD OF 'computuslaw06.GoldenLetters'. -/
def goldenLettersCard : Claim7 := { stood := { row := goldenLettersRow, standIns := [], harness := (true, "bff6ddbdc39f65526b6d7b9580cc599cc37756fb6942dc449d115ae4e50ae4ed"), looks := false }, kinds := [], alts := [], laidByText := true, laidKinds := [.data, .data, .data], laidTests := true, laidLooks := .later }
def GoldenLettersCardSaid : Prop := Claim7.holds Tryd.pinned (.plain (OpenSpec.ofChange goldenLettersSpec)) goldenLettersCard

/-- THE TIED CARD OF 'computuslaw06.GoldenRepeats'. -/
def goldenRepeatsCard : Claim7 := { stood := { row := goldenRepeatsRow, standIns := [], harness := (true, "bff6ddbdc39f65526b6d7b9580cc599cc37756fb6942dc449d115ae4e50ae4ed"), looks := false }, kinds := [], alts := [], laidByText := true, laidKinds := [.data, .data, .data], laidTests := true, laidLooks := .later }
def GoldenRepeatsCardSaid : Prop := Claim7.holds Tryd.pinned (.plain (OpenSpec.ofChange goldenRepeatsSpec)) goldenRepeatsCard

/-- THE SECOND FORM's CARD OF 'computuslaw06.GoldenMatchesReference'. -/
def goldenMatchesReferenceUptoCard : Claim7 := { stood := { row := goldenMatchesReferenceUptoRow, standIns := [], harness := (true, "bff6ddbdc39f65526b6d7b9580cc599cc37756fb6942dc449d115ae4e50ae4ed"), looks := false }, kinds := [], alts := [], laidByText := true, laidKinds := [.data, .data, .data], laidTests := true, laidLooks := .later }
def GoldenMatchesReferenceUptoCardSaid : Prop := Claim7.holds Tryd.pinned (.plain (OpenSpec.upto goldenMatchesReferenceSpec)) goldenMatchesReferenceUptoCard

/-- THE SECOND FORM's CARD OF 'computuslaw06.GoldenCycle'. -/
def goldenCycleUptoCard : Claim7 := { stood := { row := goldenCycleUptoRow, standIns := [], harness := (true, "bff6ddbdc39f65526b6d7b9580cc599cc37756fb6942dc449d115ae4e50ae4ed"), looks := false }, kinds := [], alts := [], laidByText := true, laidKinds := [.data, .data, .data], laidTests := true, laidLooks := .later }
def GoldenCycleUptoCardSaid : Prop := Claim7.holds Tryd.pinned (.plain (OpenSpec.upto goldenCycleSpec)) goldenCycleUptoCard

/-- THE SECOND FORM's CARD OF 'computuslaw06.GoldenCorrections'. -/
def goldenCorrectionsUptoCard : Claim7 := { stood := { row := goldenCorrectionsUptoRow, standIns := [], harness := (true, "bff6ddbdc39f65526b6d7b9580cc599cc37756fb6942dc449d115ae4e50ae4ed"), looks := false }, kinds := [], alts := [], laidByText := true, laidKinds := [.data, .data, .data], laidTests := true, laidLooks := .later }
def GoldenCorrectionsUptoCardSaid : Prop := Claim7.holds Tryd.pinned (.plain (OpenSpec.upto goldenCorrectionsSpec)) goldenCorrectionsUptoCard

/-- THE SECOND FORM's CARD OF 'computuslaw06.GoldenLetters'. -/
def goldenLettersUptoCard : Claim7 := { stood := { row := goldenLettersUptoRow, standIns := [], harness := (true, "bff6ddbdc39f65526b6d7b9580cc599cc37756fb6942dc449d115ae4e50ae4ed"), looks := false }, kinds := [], alts := [], laidByText := true, laidKinds := [.data, .data, .data], laidTests := true, laidLooks := .later }
def GoldenLettersUptoCardSaid : Prop := Claim7.holds Tryd.pinned (.plain (OpenSpec.upto goldenLettersSpec)) goldenLettersUptoCard

/-- THE SECOND FORM's CARD OF 'computuslaw06.GoldenRepeats'. -/
def goldenRepeatsUptoCard : Claim7 := { stood := { row := goldenRepeatsUptoRow, standIns := [], harness := (true, "bff6ddbdc39f65526b6d7b9580cc599cc37756fb6942dc449d115ae4e50ae4ed"), looks := false }, kinds := [], alts := [], laidByText := true, laidKinds := [.data, .data, .data], laidTests := true, laidLooks := .later }
def GoldenRepeatsUptoCardSaid : Prop := Claim7.holds Tryd.pinned (.plain (OpenSpec.upto goldenRepeatsSpec)) goldenRepeatsUptoCard
end Rows
end Go.Proofs.YtclnpnkjldddcaaDoor
