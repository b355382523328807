/-
  DERIVED. GIVEN WITH THE SEED: THE CARDS: each row of YtaamdimgloblpaaGreatDoorRows.lean that lists a variable, with what it lists TIED to the program's text (the seventh form; the later family's looks); each row that meets fmt, with fmt's text TOLD by the authors' own Lean function (tested against real Go, not proved from fmt's source: count such statements apart). THE CARD IS WHAT COUNTS. Prove the row's statement (the work); the ties are given (YtaamdimgloblpaaGreatDoorTie.lean); close each card by the builder's one call (the guide's Derived/Test/ToyasCard.lean, 'card_holds'). Laid BY PROGRAM, IN A SANDBOX (cutbox-door.mjs). By AI agents, Wed Nov 11 2026. No macro, syntax, notation, axiom, sorry.
-/
import Derived.Test.YtaamdimgloblpaaGreatDoorRows
import GoSem.ClaimSeven
namespace Go.Proofs.YtaamdimgloblpaaGreatDoor
namespace Rows

/-- THE TIED CARD OF 'computuslaw26.CattextCanonical'. -/
def cattextCanonicalCard : Claim7 := { stood := { row := cattextCanonicalRow, standIns := [], harness := (true, "5930b7e8fc1373f6e377cb7c219257139bf45000c4acda2a3383de93491e1cce"), looks := true }, kinds := [], alts := [], laidByText := true, laidKinds := [.data, .data, .data, .data, .sentinel, .sentinel], laidTests := true, laidLooks := .later }
def CattextCanonicalCardSaid : Prop := Claim7.holds Tryz.pinned (.plain (OpenSpec.ofChange cattextCanonicalSpec)) cattextCanonicalCard

/-- THE TIED CARD OF 'computuslaw26.CattextOffsets'. -/
def cattextOffsetsCard : Claim7 := { stood := { row := cattextOffsetsRow, standIns := [], harness := (true, "5930b7e8fc1373f6e377cb7c219257139bf45000c4acda2a3383de93491e1cce"), looks := true }, kinds := [], alts := [], laidByText := true, laidKinds := [.data, .data, .data, .data, .sentinel, .sentinel], laidTests := true, laidLooks := .later }
def CattextOffsetsCardSaid : Prop := Claim7.holds Tryz.pinned (.plain (OpenSpec.ofChange cattextOffsetsSpec)) cattextOffsetsCard

/-- THE TIED CARD OF 'computuslaw26.CattextLines'. -/
def cattextLinesCard : Claim7 := { stood := { row := cattextLinesRow, standIns := [], harness := (true, "5930b7e8fc1373f6e377cb7c219257139bf45000c4acda2a3383de93491e1cce"), looks := true }, kinds := [], alts := [], laidByText := true, laidKinds := [.data, .data, .data, .data, .sentinel, .sentinel], laidTests := true, laidLooks := .later }
def CattextLinesCardSaid : Prop := Claim7.holds Tryz.pinned (.plain (OpenSpec.ofChange cattextLinesSpec)) cattextLinesCard

/-- THE SECOND FORM's CARD OF 'computuslaw26.CattextCanonical'. -/
def cattextCanonicalUptoCard : Claim7 := { stood := { row := cattextCanonicalUptoRow, standIns := [], harness := (true, "5930b7e8fc1373f6e377cb7c219257139bf45000c4acda2a3383de93491e1cce"), looks := true }, kinds := [], alts := [], laidByText := true, laidKinds := [.data, .data, .data, .data, .sentinel, .sentinel], laidTests := true, laidLooks := .later }
def CattextCanonicalUptoCardSaid : Prop := Claim7.holds Tryz.pinned (.plain (OpenSpec.upto cattextCanonicalSpec)) cattextCanonicalUptoCard

/-- THE SECOND FORM's CARD OF 'computuslaw26.CattextOffsets'. -/
def cattextOffsetsUptoCard : Claim7 := { stood := { row := cattextOffsetsUptoRow, standIns := [], harness := (true, "5930b7e8fc1373f6e377cb7c219257139bf45000c4acda2a3383de93491e1cce"), looks := true }, kinds := [], alts := [], laidByText := true, laidKinds := [.data, .data, .data, .data, .sentinel, .sentinel], laidTests := true, laidLooks := .later }
def CattextOffsetsUptoCardSaid : Prop := Claim7.holds Tryz.pinned (.plain (OpenSpec.upto cattextOffsetsSpec)) cattextOffsetsUptoCard

/-- THE SECOND FORM's CARD OF 'computuslaw26.CattextLines'. -/
def cattextLinesUptoCard : Claim7 := { stood := { row := cattextLinesUptoRow, standIns := [], harness := (true, "5930b7e8fc1373f6e377cb7c219257139bf45000c4acda2a3383de93491e1cce"), looks := true }, kinds := [], alts := [], laidByText := true, laidKinds := [.data, .data, .data, .data, .sentinel, .sentinel], laidTests := true, laidLooks := .later }
def CattextLinesUptoCardSaid : Prop := Claim7.holds Tryz.pinned (.plain (OpenSpec.upto cattextLinesSpec)) cattextLinesUptoCard
end Rows
end Go.Proofs.YtaamdimgloblpaaGreatDoor
