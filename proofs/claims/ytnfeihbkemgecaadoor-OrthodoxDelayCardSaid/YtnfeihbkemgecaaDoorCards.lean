/-
  DERIVED. GIVEN WITH THE SEED: THE CARDS: each row of YtnfeihbkemgecaaDoorRows.lean that lists a variable, with what it lists TIED to the program's text (the seventh form; the later family's looks); each row that meets fmt, with fmt's text TOLD by the authors' own Lean function (tested against real Go, not proved from fmt's source: count such statements apart). THE CARD IS WHAT COUNTS. Prove the row's statement (the work); the ties are given (YtnfeihbkemgecaaDoorTie.lean); close each card by the builder's one call (the guide's Derived/Test/ToyasCard.lean, 'card_holds'). Laid BY PROGRAM, IN A SANDBOX (cutbox-door.mjs). By AI agents, Wed Nov 11 2026. No macro, syntax, notation, axiom, sorry.
-/
import Derived.Test.YtnfeihbkemgecaaDoorRows
import GoSem.ClaimSeven
namespace Go.Proofs.YtnfeihbkemgecaaDoor
namespace Rows

/-- THE TIED CARD OF 'computuslaw13.OrthodoxIsSameDay'. -/
def orthodoxIsSameDayCard : Claim7 := { stood := { row := orthodoxIsSameDayRow, standIns := [], harness := (true, "bd555704cdfadddd03ed316e5a809b28249dbd0bd2b603a59f5f6bb600bfe636"), looks := false }, kinds := [], alts := [], laidByText := true, laidKinds := [.data, .data, .data, .data, .data], laidTests := true, laidLooks := .later }
def OrthodoxIsSameDayCardSaid : Prop := Claim7.holds Tryd.pinned (.plain (OpenSpec.ofChange orthodoxIsSameDaySpec)) orthodoxIsSameDayCard

/-- THE TIED CARD OF 'computuslaw13.OrthodoxGap'. -/
def orthodoxGapCard : Claim7 := { stood := { row := orthodoxGapRow, standIns := [], harness := (true, "bd555704cdfadddd03ed316e5a809b28249dbd0bd2b603a59f5f6bb600bfe636"), looks := false }, kinds := [], alts := [], laidByText := true, laidKinds := [.data, .data, .data, .data, .data], laidTests := true, laidLooks := .later }
def OrthodoxGapCardSaid : Prop := Claim7.holds Tryd.pinned (.plain (OpenSpec.ofChange orthodoxGapSpec)) orthodoxGapCard

/-- THE TIED CARD OF 'computuslaw13.OrthodoxDelay'. -/
def orthodoxDelayCard : Claim7 := { stood := { row := orthodoxDelayRow, standIns := [], harness := (true, "bd555704cdfadddd03ed316e5a809b28249dbd0bd2b603a59f5f6bb600bfe636"), looks := false }, kinds := [], alts := [], laidByText := true, laidKinds := [.data, .data, .data, .data, .data], laidTests := true, laidLooks := .later }
def OrthodoxDelayCardSaid : Prop := Claim7.holds Tryd.pinned (.plain (OpenSpec.ofChange orthodoxDelaySpec)) orthodoxDelayCard

/-- THE TIED CARD OF 'computuslaw13.OrthodoxCentury'. -/
def orthodoxCenturyCard : Claim7 := { stood := { row := orthodoxCenturyRow, standIns := [], harness := (true, "bd555704cdfadddd03ed316e5a809b28249dbd0bd2b603a59f5f6bb600bfe636"), looks := false }, kinds := [], alts := [], laidByText := true, laidKinds := [.data, .data, .data, .data, .data], laidTests := true, laidLooks := .later }
def OrthodoxCenturyCardSaid : Prop := Claim7.holds Tryd.pinned (.plain (OpenSpec.ofChange orthodoxCenturySpec)) orthodoxCenturyCard

/-- THE SECOND FORM's CARD OF 'computuslaw13.OrthodoxIsSameDay'. -/
def orthodoxIsSameDayUptoCard : Claim7 := { stood := { row := orthodoxIsSameDayUptoRow, standIns := [], harness := (true, "bd555704cdfadddd03ed316e5a809b28249dbd0bd2b603a59f5f6bb600bfe636"), looks := false }, kinds := [], alts := [], laidByText := true, laidKinds := [.data, .data, .data, .data, .data], laidTests := true, laidLooks := .later }
def OrthodoxIsSameDayUptoCardSaid : Prop := Claim7.holds Tryd.pinned (.plain (OpenSpec.upto orthodoxIsSameDaySpec)) orthodoxIsSameDayUptoCard

/-- THE SECOND FORM's CARD OF 'computuslaw13.OrthodoxGap'. -/
def orthodoxGapUptoCard : Claim7 := { stood := { row := orthodoxGapUptoRow, standIns := [], harness := (true, "bd555704cdfadddd03ed316e5a809b28249dbd0bd2b603a59f5f6bb600bfe636"), looks := false }, kinds := [], alts := [], laidByText := true, laidKinds := [.data, .data, .data, .data, .data], laidTests := true, laidLooks := .later }
def OrthodoxGapUptoCardSaid : Prop := Claim7.holds Tryd.pinned (.plain (OpenSpec.upto orthodoxGapSpec)) orthodoxGapUptoCard

/-- THE SECOND FORM's CARD OF 'computuslaw13.OrthodoxDelay'. -/
def orthodoxDelayUptoCard : Claim7 := { stood := { row := orthodoxDelayUptoRow, standIns := [], harness := (true, "bd555704cdfadddd03ed316e5a809b28249dbd0bd2b603a59f5f6bb600bfe636"), looks := false }, kinds := [], alts := [], laidByText := true, laidKinds := [.data, .data, .data, .data, .data], laidTests := true, laidLooks := .later }
def OrthodoxDelayUptoCardSaid : Prop := Claim7.holds Tryd.pinned (.plain (OpenSpec.upto orthodoxDelaySpec)) orthodoxDelayUptoCard

/-- THE SECOND FORM's CARD OF 'computuslaw13.OrthodoxCentury'. -/
def orthodoxCenturyUptoCard : Claim7 := { stood := { row := orthodoxCenturyUptoRow, standIns := [], harness := (true, "bd555704cdfadddd03ed316e5a809b28249dbd0bd2b603a59f5f6bb600bfe636"), looks := false }, kinds := [], alts := [], laidByText := true, laidKinds := [.data, .data, .data, .data, .data], laidTests := true, laidLooks := .later }
def OrthodoxCenturyUptoCardSaid : Prop := Claim7.holds Tryd.pinned (.plain (OpenSpec.upto orthodoxCenturySpec)) orthodoxCenturyUptoCard
end Rows
end Go.Proofs.YtnfeihbkemgecaaDoor
