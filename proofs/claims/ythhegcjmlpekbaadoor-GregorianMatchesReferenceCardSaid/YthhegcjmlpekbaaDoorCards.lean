/-
  DERIVED. GIVEN WITH THE SEED: THE CARDS: each row of YthhegcjmlpekbaaDoorRows.lean that lists a variable, with what it lists TIED to the program's text (the seventh form; the later family's looks); each row that meets fmt, with fmt's text TOLD by the authors' own Lean function (tested against real Go, not proved from fmt's source: count such statements apart). THE CARD IS WHAT COUNTS. Prove the row's statement (the work); the ties are given (YthhegcjmlpekbaaDoorTie.lean); close each card by the builder's one call (the guide's Derived/Test/ToyasCard.lean, 'card_holds'). Laid BY PROGRAM, IN A SANDBOX (cutbox-door.mjs). By AI agents, Wed Nov 11 2026. No macro, syntax, notation, axiom, sorry.
-/
import Derived.Test.YthhegcjmlpekbaaDoorRows
import GoSem.ClaimSeven
namespace Go.Proofs.YthhegcjmlpekbaaDoor
namespace Rows

/-- THE TIED CARD OF 'computuslaw03.GregorianMatchesReference'. -/
def gregorianMatchesReferenceCard : Claim7 := { stood := { row := gregorianMatchesReferenceRow, standIns := [], harness := (true, "f0b50a9b265c7a874b3dcaf894b38aaf9df5174e93eb85ea897d4d7a5fe01351"), looks := false }, kinds := [], alts := [], laidByText := true, laidKinds := [.data, .data], laidTests := true, laidLooks := .later }
def GregorianMatchesReferenceCardSaid : Prop := Claim7.holds Tryd.pinned (.plain (OpenSpec.ofChange gregorianMatchesReferenceSpec)) gregorianMatchesReferenceCard

/-- THE TIED CARD OF 'computuslaw03.GregorianRoundTrip'. -/
def gregorianRoundTripCard : Claim7 := { stood := { row := gregorianRoundTripRow, standIns := [], harness := (true, "f0b50a9b265c7a874b3dcaf894b38aaf9df5174e93eb85ea897d4d7a5fe01351"), looks := false }, kinds := [], alts := [], laidByText := true, laidKinds := [.data, .data], laidTests := true, laidLooks := .later }
def GregorianRoundTripCardSaid : Prop := Claim7.holds Tryd.pinned (.plain (OpenSpec.ofChange gregorianRoundTripSpec)) gregorianRoundTripCard

/-- THE TIED CARD OF 'computuslaw03.GregorianSuccessor'. -/
def gregorianSuccessorCard : Claim7 := { stood := { row := gregorianSuccessorRow, standIns := [], harness := (true, "f0b50a9b265c7a874b3dcaf894b38aaf9df5174e93eb85ea897d4d7a5fe01351"), looks := false }, kinds := [], alts := [], laidByText := true, laidKinds := [.data, .data], laidTests := true, laidLooks := .later }
def GregorianSuccessorCardSaid : Prop := Claim7.holds Tryd.pinned (.plain (OpenSpec.ofChange gregorianSuccessorSpec)) gregorianSuccessorCard

/-- THE TIED CARD OF 'computuslaw03.GregorianOrder'. -/
def gregorianOrderCard : Claim7 := { stood := { row := gregorianOrderRow, standIns := [], harness := (true, "f0b50a9b265c7a874b3dcaf894b38aaf9df5174e93eb85ea897d4d7a5fe01351"), looks := false }, kinds := [], alts := [], laidByText := true, laidKinds := [.data, .data], laidTests := true, laidLooks := .later }
def GregorianOrderCardSaid : Prop := Claim7.holds Tryd.pinned (.plain (OpenSpec.ofChange gregorianOrderSpec)) gregorianOrderCard

/-- THE TIED CARD OF 'computuslaw03.GregorianCycle'. -/
def gregorianCycleCard : Claim7 := { stood := { row := gregorianCycleRow, standIns := [], harness := (true, "f0b50a9b265c7a874b3dcaf894b38aaf9df5174e93eb85ea897d4d7a5fe01351"), looks := false }, kinds := [], alts := [], laidByText := true, laidKinds := [.data, .data], laidTests := true, laidLooks := .later }
def GregorianCycleCardSaid : Prop := Claim7.holds Tryd.pinned (.plain (OpenSpec.ofChange gregorianCycleSpec)) gregorianCycleCard

/-- THE TIED CARD OF 'computuslaw03.GregorianMonths'. -/
def gregorianMonthsCard : Claim7 := { stood := { row := gregorianMonthsRow, standIns := [], harness := (true, "f0b50a9b265c7a874b3dcaf894b38aaf9df5174e93eb85ea897d4d7a5fe01351"), looks := false }, kinds := [], alts := [], laidByText := true, laidKinds := [.data, .data], laidTests := true, laidLooks := .later }
def GregorianMonthsCardSaid : Prop := Claim7.holds Tryd.pinned (.plain (OpenSpec.ofChange gregorianMonthsSpec)) gregorianMonthsCard

/-- THE SECOND FORM's CARD OF 'computuslaw03.GregorianMatchesReference'. -/
def gregorianMatchesReferenceUptoCard : Claim7 := { stood := { row := gregorianMatchesReferenceUptoRow, standIns := [], harness := (true, "f0b50a9b265c7a874b3dcaf894b38aaf9df5174e93eb85ea897d4d7a5fe01351"), looks := false }, kinds := [], alts := [], laidByText := true, laidKinds := [.data, .data], laidTests := true, laidLooks := .later }
def GregorianMatchesReferenceUptoCardSaid : Prop := Claim7.holds Tryd.pinned (.plain (OpenSpec.upto gregorianMatchesReferenceSpec)) gregorianMatchesReferenceUptoCard

/-- THE SECOND FORM's CARD OF 'computuslaw03.GregorianRoundTrip'. -/
def gregorianRoundTripUptoCard : Claim7 := { stood := { row := gregorianRoundTripUptoRow, standIns := [], harness := (true, "f0b50a9b265c7a874b3dcaf894b38aaf9df5174e93eb85ea897d4d7a5fe01351"), looks := false }, kinds := [], alts := [], laidByText := true, laidKinds := [.data, .data], laidTests := true, laidLooks := .later }
def GregorianRoundTripUptoCardSaid : Prop := Claim7.holds Tryd.pinned (.plain (OpenSpec.upto gregorianRoundTripSpec)) gregorianRoundTripUptoCard

/-- THE SECOND FORM's CARD OF 'computuslaw03.GregorianSuccessor'. -/
def gregorianSuccessorUptoCard : Claim7 := { stood := { row := gregorianSuccessorUptoRow, standIns := [], harness := (true, "f0b50a9b265c7a874b3dcaf894b38aaf9df5174e93eb85ea897d4d7a5fe01351"), looks := false }, kinds := [], alts := [], laidByText := true, laidKinds := [.data, .data], laidTests := true, laidLooks := .later }
def GregorianSuccessorUptoCardSaid : Prop := Claim7.holds Tryd.pinned (.plain (OpenSpec.upto gregorianSuccessorSpec)) gregorianSuccessorUptoCard

/-- THE SECOND FORM's CARD OF 'computuslaw03.GregorianOrder'. -/
def gregorianOrderUptoCard : Claim7 := { stood := { row := gregorianOrderUptoRow, standIns := [], harness := (true, "f0b50a9b265c7a874b3dcaf894b38aaf9df5174e93eb85ea897d4d7a5fe01351"), looks := false }, kinds := [], alts := [], laidByText := true, laidKinds := [.data, .data], laidTests := true, laidLooks := .later }
def GregorianOrderUptoCardSaid : Prop := Claim7.holds Tryd.pinned (.plain (OpenSpec.upto gregorianOrderSpec)) gregorianOrderUptoCard

/-- THE SECOND FORM's CARD OF 'computuslaw03.GregorianCycle'. -/
def gregorianCycleUptoCard : Claim7 := { stood := { row := gregorianCycleUptoRow, standIns := [], harness := (true, "f0b50a9b265c7a874b3dcaf894b38aaf9df5174e93eb85ea897d4d7a5fe01351"), looks := false }, kinds := [], alts := [], laidByText := true, laidKinds := [.data, .data], laidTests := true, laidLooks := .later }
def GregorianCycleUptoCardSaid : Prop := Claim7.holds Tryd.pinned (.plain (OpenSpec.upto gregorianCycleSpec)) gregorianCycleUptoCard

/-- THE SECOND FORM's CARD OF 'computuslaw03.GregorianMonths'. -/
def gregorianMonthsUptoCard : Claim7 := { stood := { row := gregorianMonthsUptoRow, standIns := [], harness := (true, "f0b50a9b265c7a874b3dcaf894b38aaf9df5174e93eb85ea897d4d7a5fe01351"), looks := false }, kinds := [], alts := [], laidByText := true, laidKinds := [.data, .data], laidTests := true, laidLooks := .later }
def GregorianMonthsUptoCardSaid : Prop := Claim7.holds Tryd.pinned (.plain (OpenSpec.upto gregorianMonthsSpec)) gregorianMonthsUptoCard
end Rows
end Go.Proofs.YthhegcjmlpekbaaDoor
