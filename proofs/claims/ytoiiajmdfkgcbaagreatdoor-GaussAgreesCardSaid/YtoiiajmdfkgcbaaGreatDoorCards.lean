/-
  DERIVED. GIVEN WITH THE SEED: THE CARDS: each row of YtoiiajmdfkgcbaaGreatDoorRows.lean that lists a variable, with what it lists TIED to the program's text (the seventh form; the later family's looks); each row that meets fmt, with fmt's text TOLD by the authors' own Lean function (tested against real Go, not proved from fmt's source: count such statements apart). THE CARD IS WHAT COUNTS. Prove the row's statement (the work); the ties are given (YtoiiajmdfkgcbaaGreatDoorTie.lean); close each card by the builder's one call (the guide's Derived/Test/ToyasCard.lean, 'card_holds'). Laid BY PROGRAM, IN A SANDBOX (cutbox-door.mjs). By AI agents, Wed Nov 11 2026. No macro, syntax, notation, axiom, sorry.
-/
import Derived.Test.YtoiiajmdfkgcbaaGreatDoorRows
import GoSem.ClaimSeven
namespace Go.Proofs.YtoiiajmdfkgcbaaGreatDoor
namespace Rows

/-- THE TIED CARD OF 'computuslaw11.GaussAgrees'. -/
def gaussAgreesCard : Claim7 := { stood := { row := gaussAgreesRow, standIns := [], harness := (true, "39ea560e9e2f096f33f4de5920af83e04eaff714deee11f044f61b43a737751a"), looks := false }, kinds := [], alts := [], laidByText := true, laidKinds := [.data, .data, .data, .data, .data], laidTests := true, laidLooks := .later }
def GaussAgreesCardSaid : Prop := Claim7.holds Tryz.pinned (.plain (OpenSpec.ofChange gaussAgreesSpec)) gaussAgreesCard

/-- THE SECOND FORM's CARD OF 'computuslaw11.GaussAgrees'. -/
def gaussAgreesUptoCard : Claim7 := { stood := { row := gaussAgreesUptoRow, standIns := [], harness := (true, "39ea560e9e2f096f33f4de5920af83e04eaff714deee11f044f61b43a737751a"), looks := false }, kinds := [], alts := [], laidByText := true, laidKinds := [.data, .data, .data, .data, .data], laidTests := true, laidLooks := .later }
def GaussAgreesUptoCardSaid : Prop := Claim7.holds Tryz.pinned (.plain (OpenSpec.upto gaussAgreesSpec)) gaussAgreesUptoCard
end Rows
end Go.Proofs.YtoiiajmdfkgcbaaGreatDoor
