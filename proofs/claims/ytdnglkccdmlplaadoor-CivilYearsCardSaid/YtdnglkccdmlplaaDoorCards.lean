/-
  DERIVED. GIVEN WITH THE SEED: THE CARDS: each row of YtdnglkccdmlplaaDoorRows.lean that lists a variable, with what it lists TIED to the program's text (the seventh form; the later family's looks); each row that meets fmt, with fmt's text TOLD by the authors' own Lean function (tested against real Go, not proved from fmt's source: count such statements apart). THE CARD IS WHAT COUNTS. Prove the row's statement (the work); the ties are given (YtdnglkccdmlplaaDoorTie.lean); close each card by the builder's one call (the guide's Derived/Test/ToyasCard.lean, 'card_holds'). Laid BY PROGRAM, IN A SANDBOX (cutbox-door.mjs). By AI agents, Wed Nov 11 2026. No macro, syntax, notation, axiom, sorry.
-/
import Derived.Test.YtdnglkccdmlplaaDoorRows
import GoSem.ClaimSeven
namespace Go.Proofs.YtdnglkccdmlplaaDoor
namespace Rows

/-- THE TIED CARD OF 'computuslaw05.CivilMatchesReference'. -/
def civilMatchesReferenceCard : Claim7 := { stood := { row := civilMatchesReferenceRow, standIns := [], harness := (true, "9484c15c1b8584f9bd4f7ea5aa595545c02681c034fbe158da6ebf60820e8177"), looks := false }, kinds := [], alts := [], laidByText := true, laidKinds := [.data, .data, .data], laidTests := true, laidLooks := .later }
def CivilMatchesReferenceCardSaid : Prop := Claim7.holds Tryd.pinned (.plain (OpenSpec.ofChange civilMatchesReferenceSpec)) civilMatchesReferenceCard

/-- THE TIED CARD OF 'computuslaw05.CivilConvert'. -/
def civilConvertCard : Claim7 := { stood := { row := civilConvertRow, standIns := [], harness := (true, "9484c15c1b8584f9bd4f7ea5aa595545c02681c034fbe158da6ebf60820e8177"), looks := false }, kinds := [], alts := [], laidByText := true, laidKinds := [.data, .data, .data], laidTests := true, laidLooks := .later }
def CivilConvertCardSaid : Prop := Claim7.holds Tryd.pinned (.plain (OpenSpec.ofChange civilConvertSpec)) civilConvertCard

/-- THE TIED CARD OF 'computuslaw05.CivilYears'. -/
def civilYearsCard : Claim7 := { stood := { row := civilYearsRow, standIns := [], harness := (true, "9484c15c1b8584f9bd4f7ea5aa595545c02681c034fbe158da6ebf60820e8177"), looks := false }, kinds := [], alts := [], laidByText := true, laidKinds := [.data, .data, .data], laidTests := true, laidLooks := .later }
def CivilYearsCardSaid : Prop := Claim7.holds Tryd.pinned (.plain (OpenSpec.ofChange civilYearsSpec)) civilYearsCard

/-- THE TIED CARD OF 'computuslaw05.CivilShift'. -/
def civilShiftCard : Claim7 := { stood := { row := civilShiftRow, standIns := [], harness := (true, "9484c15c1b8584f9bd4f7ea5aa595545c02681c034fbe158da6ebf60820e8177"), looks := false }, kinds := [], alts := [], laidByText := true, laidKinds := [.data, .data, .data], laidTests := true, laidLooks := .later }
def CivilShiftCardSaid : Prop := Claim7.holds Tryd.pinned (.plain (OpenSpec.ofChange civilShiftSpec)) civilShiftCard

/-- THE TIED CARD OF 'computuslaw05.CivilOrder'. -/
def civilOrderCard : Claim7 := { stood := { row := civilOrderRow, standIns := [], harness := (true, "9484c15c1b8584f9bd4f7ea5aa595545c02681c034fbe158da6ebf60820e8177"), looks := false }, kinds := [], alts := [], laidByText := true, laidKinds := [.data, .data, .data], laidTests := true, laidLooks := .later }
def CivilOrderCardSaid : Prop := Claim7.holds Tryd.pinned (.plain (OpenSpec.ofChange civilOrderSpec)) civilOrderCard

/-- THE SECOND FORM's CARD OF 'computuslaw05.CivilMatchesReference'. -/
def civilMatchesReferenceUptoCard : Claim7 := { stood := { row := civilMatchesReferenceUptoRow, standIns := [], harness := (true, "9484c15c1b8584f9bd4f7ea5aa595545c02681c034fbe158da6ebf60820e8177"), looks := false }, kinds := [], alts := [], laidByText := true, laidKinds := [.data, .data, .data], laidTests := true, laidLooks := .later }
def CivilMatchesReferenceUptoCardSaid : Prop := Claim7.holds Tryd.pinned (.plain (OpenSpec.upto civilMatchesReferenceSpec)) civilMatchesReferenceUptoCard

/-- THE SECOND FORM's CARD OF 'computuslaw05.CivilConvert'. -/
def civilConvertUptoCard : Claim7 := { stood := { row := civilConvertUptoRow, standIns := [], harness := (true, "9484c15c1b8584f9bd4f7ea5aa595545c02681c034fbe158da6ebf60820e8177"), looks := false }, kinds := [], alts := [], laidByText := true, laidKinds := [.data, .data, .data], laidTests := true, laidLooks := .later }
def CivilConvertUptoCardSaid : Prop := Claim7.holds Tryd.pinned (.plain (OpenSpec.upto civilConvertSpec)) civilConvertUptoCard

/-- THE SECOND FORM's CARD OF 'computuslaw05.CivilYears'. -/
def civilYearsUptoCard : Claim7 := { stood := { row := civilYearsUptoRow, standIns := [], harness := (true, "9484c15c1b8584f9bd4f7ea5aa595545c02681c034fbe158da6ebf60820e8177"), looks := false }, kinds := [], alts := [], laidByText := true, laidKinds := [.data, .data, .data], laidTests := true, laidLooks := .later }
def CivilYearsUptoCardSaid : Prop := Claim7.holds Tryd.pinned (.plain (OpenSpec.upto civilYearsSpec)) civilYearsUptoCard

/-- THE SECOND FORM's CARD OF 'computuslaw05.CivilShift'. -/
def civilShiftUptoCard : Claim7 := { stood := { row := civilShiftUptoRow, standIns := [], harness := (true, "9484c15c1b8584f9bd4f7ea5aa595545c02681c034fbe158da6ebf60820e8177"), looks := false }, kinds := [], alts := [], laidByText := true, laidKinds := [.data, .data, .data], laidTests := true, laidLooks := .later }
def CivilShiftUptoCardSaid : Prop := Claim7.holds Tryd.pinned (.plain (OpenSpec.upto civilShiftSpec)) civilShiftUptoCard

/-- THE SECOND FORM's CARD OF 'computuslaw05.CivilOrder'. -/
def civilOrderUptoCard : Claim7 := { stood := { row := civilOrderUptoRow, standIns := [], harness := (true, "9484c15c1b8584f9bd4f7ea5aa595545c02681c034fbe158da6ebf60820e8177"), looks := false }, kinds := [], alts := [], laidByText := true, laidKinds := [.data, .data, .data], laidTests := true, laidLooks := .later }
def CivilOrderUptoCardSaid : Prop := Claim7.holds Tryd.pinned (.plain (OpenSpec.upto civilOrderSpec)) civilOrderUptoCard
end Rows
end Go.Proofs.YtdnglkccdmlplaaDoor
