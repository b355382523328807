/-
  DERIVED. GIVEN WITH THE SEED: THE CARDS: each row of YtenapnmbdilabaaDoorRows.lean that lists a variable, with what it lists TIED to the program's text (the seventh form; the later family's looks); each row that meets fmt, with fmt's text TOLD by the authors' own Lean function (tested against real Go, not proved from fmt's source: count such statements apart). THE CARD IS WHAT COUNTS. Prove the row's statement (the work); the ties are given (YtenapnmbdilabaaDoorTie.lean); close each card by the builder's one call (the guide's Derived/Test/ToyasCard.lean, 'card_holds'). Laid BY PROGRAM, IN A SANDBOX (cutbox-door.mjs). By AI agents, Wed Nov 11 2026. No macro, syntax, notation, axiom, sorry.
-/
import Derived.Test.YtenapnmbdilabaaDoorRows
import GoSem.ClaimSeven
namespace Go.Proofs.YtenapnmbdilabaaDoor
namespace Rows

/-- THE TIED CARD OF 'computuslaw10.EasterOffsets'. -/
def easterOffsetsCard : Claim7 := { stood := { row := easterOffsetsRow, standIns := [], harness := (true, "5ef15971b06ce40a0cbf4f558dac72d4dc40682534382c74a9d8c706549c0f7e"), looks := false }, kinds := [], alts := [], laidByText := true, laidKinds := [.data, .data, .data, .data, .data], laidTests := true, laidLooks := .later }
def EasterOffsetsCardSaid : Prop := Claim7.holds Tryd.pinned (.plain (OpenSpec.ofChange easterOffsetsSpec)) easterOffsetsCard

/-- THE TIED CARD OF 'computuslaw10.EasterNextYear'. -/
def easterNextYearCard : Claim7 := { stood := { row := easterNextYearRow, standIns := [], harness := (true, "5ef15971b06ce40a0cbf4f558dac72d4dc40682534382c74a9d8c706549c0f7e"), looks := false }, kinds := [], alts := [], laidByText := true, laidKinds := [.data, .data, .data, .data, .data], laidTests := true, laidLooks := .later }
def EasterNextYearCardSaid : Prop := Claim7.holds Tryd.pinned (.plain (OpenSpec.ofChange easterNextYearSpec)) easterNextYearCard

/-- THE SECOND FORM's CARD OF 'computuslaw10.EasterOffsets'. -/
def easterOffsetsUptoCard : Claim7 := { stood := { row := easterOffsetsUptoRow, standIns := [], harness := (true, "5ef15971b06ce40a0cbf4f558dac72d4dc40682534382c74a9d8c706549c0f7e"), looks := false }, kinds := [], alts := [], laidByText := true, laidKinds := [.data, .data, .data, .data, .data], laidTests := true, laidLooks := .later }
def EasterOffsetsUptoCardSaid : Prop := Claim7.holds Tryd.pinned (.plain (OpenSpec.upto easterOffsetsSpec)) easterOffsetsUptoCard

/-- THE SECOND FORM's CARD OF 'computuslaw10.EasterNextYear'. -/
def easterNextYearUptoCard : Claim7 := { stood := { row := easterNextYearUptoRow, standIns := [], harness := (true, "5ef15971b06ce40a0cbf4f558dac72d4dc40682534382c74a9d8c706549c0f7e"), looks := false }, kinds := [], alts := [], laidByText := true, laidKinds := [.data, .data, .data, .data, .data], laidTests := true, laidLooks := .later }
def EasterNextYearUptoCardSaid : Prop := Claim7.holds Tryd.pinned (.plain (OpenSpec.upto easterNextYearSpec)) easterNextYearUptoCard
end Rows
end Go.Proofs.YtenapnmbdilabaaDoor
