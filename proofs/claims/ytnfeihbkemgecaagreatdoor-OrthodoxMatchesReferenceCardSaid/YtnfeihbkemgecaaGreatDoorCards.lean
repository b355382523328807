/-
  DERIVED. GIVEN WITH THE SEED: THE CARDS: each row of YtnfeihbkemgecaaGreatDoorRows.lean that lists a variable, with what it lists TIED to the program's text (the seventh form; the later family's looks); each row that meets fmt, with fmt's text TOLD by the authors' own Lean function (tested against real Go, not proved from fmt's source: count such statements apart). THE CARD IS WHAT COUNTS. Prove the row's statement (the work); the ties are given (YtnfeihbkemgecaaGreatDoorTie.lean); close each card by the builder's one call (the guide's Derived/Test/ToyasCard.lean, 'card_holds'). Laid BY PROGRAM, IN A SANDBOX (cutbox-door.mjs). By AI agents, Wed Nov 11 2026. No macro, syntax, notation, axiom, sorry.
-/
import Derived.Test.YtnfeihbkemgecaaGreatDoorRows
import GoSem.ClaimSeven
namespace Go.Proofs.YtnfeihbkemgecaaGreatDoor
namespace Rows

/-- THE TIED CARD OF 'computuslaw13.OrthodoxMatchesReference'. -/
def orthodoxMatchesReferenceCard : Claim7 := { stood := { row := orthodoxMatchesReferenceRow, standIns := [], harness := (true, "6c750d601d6ab67faab33d1975f1c502408d517d9515133486a37498bfba0629"), looks := false }, kinds := [], alts := [], laidByText := true, laidKinds := [.data, .data, .data, .data, .data], laidTests := true, laidLooks := .later }
def OrthodoxMatchesReferenceCardSaid : Prop := Claim7.holds Tryz.pinned (.plain (OpenSpec.ofChange orthodoxMatchesReferenceSpec)) orthodoxMatchesReferenceCard

/-- THE SECOND FORM's CARD OF 'computuslaw13.OrthodoxMatchesReference'. -/
def orthodoxMatchesReferenceUptoCard : Claim7 := { stood := { row := orthodoxMatchesReferenceUptoRow, standIns := [], harness := (true, "6c750d601d6ab67faab33d1975f1c502408d517d9515133486a37498bfba0629"), looks := false }, kinds := [], alts := [], laidByText := true, laidKinds := [.data, .data, .data, .data, .data], laidTests := true, laidLooks := .later }
def OrthodoxMatchesReferenceUptoCardSaid : Prop := Claim7.holds Tryz.pinned (.plain (OpenSpec.upto orthodoxMatchesReferenceSpec)) orthodoxMatchesReferenceUptoCard
end Rows
end Go.Proofs.YtnfeihbkemgecaaGreatDoor
