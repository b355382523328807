/-
  DERIVED. GIVEN WITH THE SEED: THE CARDS: each row of YtmcnfleiagcpjaaGreatDoorRows.lean that lists a variable, with what it lists TIED to the program's text (the seventh form; the later family's looks); each row that meets fmt, with fmt's text TOLD by the authors' own Lean function (tested against real Go, not proved from fmt's source: count such statements apart). THE CARD IS WHAT COUNTS. Prove the row's statement (the work); the ties are given (YtmcnfleiagcpjaaGreatDoorTie.lean); close each card by the builder's one call (the guide's Derived/Test/ToyasCard.lean, 'card_holds'). Laid BY PROGRAM, IN A SANDBOX (cutbox-door.mjs). By AI agents, Wed Nov 11 2026. No macro, syntax, notation, axiom, sorry.
-/
import Derived.Test.YtmcnfleiagcpjaaGreatDoorRows
import GoSem.ClaimSeven
namespace Go.Proofs.YtmcnfleiagcpjaaGreatDoor
namespace Rows

/-- THE TIED CARD OF 'computuslaw12.ButcherAgrees'. -/
def butcherAgreesCard : Claim7 := { stood := { row := butcherAgreesRow, standIns := [], harness := (true, "715aece23416e3de8ba947f1848c5d93dd16d44a6c1c89f736190176518bb6b6"), looks := false }, kinds := [], alts := [], laidByText := true, laidKinds := [.data, .data, .data, .data, .data], laidTests := true, laidLooks := .later }
def ButcherAgreesCardSaid : Prop := Claim7.holds Tryz.pinned (.plain (OpenSpec.ofChange butcherAgreesSpec)) butcherAgreesCard

/-- THE SECOND FORM's CARD OF 'computuslaw12.ButcherAgrees'. -/
def butcherAgreesUptoCard : Claim7 := { stood := { row := butcherAgreesUptoRow, standIns := [], harness := (true, "715aece23416e3de8ba947f1848c5d93dd16d44a6c1c89f736190176518bb6b6"), looks := false }, kinds := [], alts := [], laidByText := true, laidKinds := [.data, .data, .data, .data, .data], laidTests := true, laidLooks := .later }
def ButcherAgreesUptoCardSaid : Prop := Claim7.holds Tryz.pinned (.plain (OpenSpec.upto butcherAgreesSpec)) butcherAgreesUptoCard
end Rows
end Go.Proofs.YtmcnfleiagcpjaaGreatDoor
