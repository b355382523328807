/-
  DERIVED. GIVEN WITH THE SEED: THE CARDS: each row of YtenapnmbdilabaaGreatDoorRows.lean that lists a variable, with what it lists TIED to the program's text (the seventh form; the later family's looks); each row that meets fmt, with fmt's text TOLD by the authors' own Lean function (tested against real Go, not proved from fmt's source: count such statements apart). THE CARD IS WHAT COUNTS. Prove the row's statement (the work); the ties are given (YtenapnmbdilabaaGreatDoorTie.lean); close each card by the builder's one call (the guide's Derived/Test/ToyasCard.lean, 'card_holds'). Laid BY PROGRAM, IN A SANDBOX (cutbox-door.mjs). By AI agents, Wed Nov 11 2026. No macro, syntax, notation, axiom, sorry.
-/
import Derived.Test.YtenapnmbdilabaaGreatDoorRows
import GoSem.ClaimSeven
namespace Go.Proofs.YtenapnmbdilabaaGreatDoor
namespace Rows

/-- THE TIED CARD OF 'computuslaw10.EasterMatchesReference'. -/
def easterMatchesReferenceCard : Claim7 := { stood := { row := easterMatchesReferenceRow, standIns := [], harness := (true, "d79797b27c65588c44ccf8ffa0dcf0902f280e6afa535837cb6ef581da2bfdb7"), looks := false }, kinds := [], alts := [], laidByText := true, laidKinds := [.data, .data, .data, .data, .data], laidTests := true, laidLooks := .later }
def EasterMatchesReferenceCardSaid : Prop := Claim7.holds Tryz.pinned (.plain (OpenSpec.ofChange easterMatchesReferenceSpec)) easterMatchesReferenceCard

/-- THE TIED CARD OF 'computuslaw10.EasterIsSunday'. -/
def easterIsSundayCard : Claim7 := { stood := { row := easterIsSundayRow, standIns := [], harness := (true, "d79797b27c65588c44ccf8ffa0dcf0902f280e6afa535837cb6ef581da2bfdb7"), looks := false }, kinds := [], alts := [], laidByText := true, laidKinds := [.data, .data, .data, .data, .data], laidTests := true, laidLooks := .later }
def EasterIsSundayCardSaid : Prop := Claim7.holds Tryz.pinned (.plain (OpenSpec.ofChange easterIsSundaySpec)) easterIsSundayCard

/-- THE SECOND FORM's CARD OF 'computuslaw10.EasterMatchesReference'. -/
def easterMatchesReferenceUptoCard : Claim7 := { stood := { row := easterMatchesReferenceUptoRow, standIns := [], harness := (true, "d79797b27c65588c44ccf8ffa0dcf0902f280e6afa535837cb6ef581da2bfdb7"), looks := false }, kinds := [], alts := [], laidByText := true, laidKinds := [.data, .data, .data, .data, .data], laidTests := true, laidLooks := .later }
def EasterMatchesReferenceUptoCardSaid : Prop := Claim7.holds Tryz.pinned (.plain (OpenSpec.upto easterMatchesReferenceSpec)) easterMatchesReferenceUptoCard

/-- THE SECOND FORM's CARD OF 'computuslaw10.EasterIsSunday'. -/
def easterIsSundayUptoCard : Claim7 := { stood := { row := easterIsSundayUptoRow, standIns := [], harness := (true, "d79797b27c65588c44ccf8ffa0dcf0902f280e6afa535837cb6ef581da2bfdb7"), looks := false }, kinds := [], alts := [], laidByText := true, laidKinds := [.data, .data, .data, .data, .data], laidTests := true, laidLooks := .later }
def EasterIsSundayUptoCardSaid : Prop := Claim7.holds Tryz.pinned (.plain (OpenSpec.upto easterIsSundaySpec)) easterIsSundayUptoCard
end Rows
end Go.Proofs.YtenapnmbdilabaaGreatDoor
