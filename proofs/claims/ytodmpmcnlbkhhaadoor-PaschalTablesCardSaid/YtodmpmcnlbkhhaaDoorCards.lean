/-
  DERIVED. GIVEN WITH THE SEED: THE CARDS: each row of YtodmpmcnlbkhhaaDoorRows.lean that lists a variable, with what it lists TIED to the program's text (the seventh form; the later family's looks); each row that meets fmt, with fmt's text TOLD by the authors' own Lean function (tested against real Go, not proved from fmt's source: count such statements apart). THE CARD IS WHAT COUNTS. Prove the row's statement (the work); the ties are given (YtodmpmcnlbkhhaaDoorTie.lean); close each card by the builder's one call (the guide's Derived/Test/ToyasCard.lean, 'card_holds'). Laid BY PROGRAM, IN A SANDBOX (cutbox-door.mjs). By AI agents, Wed Nov 11 2026. No macro, syntax, notation, axiom, sorry.
-/
import Derived.Test.YtodmpmcnlbkhhaaDoorRows
import GoSem.ClaimSeven
namespace Go.Proofs.YtodmpmcnlbkhhaaDoor
namespace Rows

/-- THE TIED CARD OF 'computuslaw09.PaschalMatchesReference'. -/
def paschalMatchesReferenceCard : Claim7 := { stood := { row := paschalMatchesReferenceRow, standIns := [], harness := (true, "1237d3f1e50856818fa86864392605a27e6a3b74ca523ef2395e1d47a8fcbeee"), looks := false }, kinds := [], alts := [], laidByText := true, laidKinds := [.data, .data, .data, .data, .data], laidTests := true, laidLooks := .later }
def PaschalMatchesReferenceCardSaid : Prop := Claim7.holds Tryd.pinned (.plain (OpenSpec.ofChange paschalMatchesReferenceSpec)) paschalMatchesReferenceCard

/-- THE TIED CARD OF 'computuslaw09.PaschalIsTabular'. -/
def paschalIsTabularCard : Claim7 := { stood := { row := paschalIsTabularRow, standIns := [], harness := (true, "1237d3f1e50856818fa86864392605a27e6a3b74ca523ef2395e1d47a8fcbeee"), looks := false }, kinds := [], alts := [], laidByText := true, laidKinds := [.data, .data, .data, .data, .data], laidTests := true, laidLooks := .later }
def PaschalIsTabularCardSaid : Prop := Claim7.holds Tryd.pinned (.plain (OpenSpec.ofChange paschalIsTabularSpec)) paschalIsTabularCard

/-- THE TIED CARD OF 'computuslaw09.PaschalTables'. -/
def paschalTablesCard : Claim7 := { stood := { row := paschalTablesRow, standIns := [], harness := (true, "1237d3f1e50856818fa86864392605a27e6a3b74ca523ef2395e1d47a8fcbeee"), looks := false }, kinds := [], alts := [], laidByText := true, laidKinds := [.data, .data, .data, .data, .data], laidTests := true, laidLooks := .later }
def PaschalTablesCardSaid : Prop := Claim7.holds Tryd.pinned (.plain (OpenSpec.ofChange paschalTablesSpec)) paschalTablesCard

/-- THE TIED CARD OF 'computuslaw09.PaschalJulian'. -/
def paschalJulianCard : Claim7 := { stood := { row := paschalJulianRow, standIns := [], harness := (true, "1237d3f1e50856818fa86864392605a27e6a3b74ca523ef2395e1d47a8fcbeee"), looks := false }, kinds := [], alts := [], laidByText := true, laidKinds := [.data, .data, .data, .data, .data], laidTests := true, laidLooks := .later }
def PaschalJulianCardSaid : Prop := Claim7.holds Tryd.pinned (.plain (OpenSpec.ofChange paschalJulianSpec)) paschalJulianCard

/-- THE TIED CARD OF 'computuslaw09.PaschalMonths'. -/
def paschalMonthsCard : Claim7 := { stood := { row := paschalMonthsRow, standIns := [], harness := (true, "1237d3f1e50856818fa86864392605a27e6a3b74ca523ef2395e1d47a8fcbeee"), looks := false }, kinds := [], alts := [], laidByText := true, laidKinds := [.data, .data, .data, .data, .data], laidTests := true, laidLooks := .later }
def PaschalMonthsCardSaid : Prop := Claim7.holds Tryd.pinned (.plain (OpenSpec.ofChange paschalMonthsSpec)) paschalMonthsCard

/-- THE SECOND FORM's CARD OF 'computuslaw09.PaschalMatchesReference'. -/
def paschalMatchesReferenceUptoCard : Claim7 := { stood := { row := paschalMatchesReferenceUptoRow, standIns := [], harness := (true, "1237d3f1e50856818fa86864392605a27e6a3b74ca523ef2395e1d47a8fcbeee"), looks := false }, kinds := [], alts := [], laidByText := true, laidKinds := [.data, .data, .data, .data, .data], laidTests := true, laidLooks := .later }
def PaschalMatchesReferenceUptoCardSaid : Prop := Claim7.holds Tryd.pinned (.plain (OpenSpec.upto paschalMatchesReferenceSpec)) paschalMatchesReferenceUptoCard

/-- THE SECOND FORM's CARD OF 'computuslaw09.PaschalIsTabular'. -/
def paschalIsTabularUptoCard : Claim7 := { stood := { row := paschalIsTabularUptoRow, standIns := [], harness := (true, "1237d3f1e50856818fa86864392605a27e6a3b74ca523ef2395e1d47a8fcbeee"), looks := false }, kinds := [], alts := [], laidByText := true, laidKinds := [.data, .data, .data, .data, .data], laidTests := true, laidLooks := .later }
def PaschalIsTabularUptoCardSaid : Prop := Claim7.holds Tryd.pinned (.plain (OpenSpec.upto paschalIsTabularSpec)) paschalIsTabularUptoCard

/-- THE SECOND FORM's CARD OF 'computuslaw09.PaschalTables'. -/
def paschalTablesUptoCard : Claim7 := { stood := { row := paschalTablesUptoRow, standIns := [], harness := (true, "1237d3f1e50856818fa86864392605a27e6a3b74ca523ef2395e1d47a8fcbeee"), looks := false }, kinds := [], alts := [], laidByText := true, laidKinds := [.data, .data, .data, .data, .data], laidTests := true, laidLooks := .later }
def PaschalTablesUptoCardSaid : Prop := Claim7.holds Tryd.pinned (.plain (OpenSpec.upto paschalTablesSpec)) paschalTablesUptoCard

/-- THE SECOND FORM's CARD OF 'computuslaw09.PaschalJulian'. -/
def paschalJulianUptoCard : Claim7 := { stood := { row := paschalJulianUptoRow, standIns := [], harness := (true, "1237d3f1e50856818fa86864392605a27e6a3b74ca523ef2395e1d47a8fcbeee"), looks := false }, kinds := [], alts := [], laidByText := true, laidKinds := [.data, .data, .data, .data, .data], laidTests := true, laidLooks := .later }
def PaschalJulianUptoCardSaid : Prop := Claim7.holds Tryd.pinned (.plain (OpenSpec.upto paschalJulianSpec)) paschalJulianUptoCard

/-- THE SECOND FORM's CARD OF 'computuslaw09.PaschalMonths'. -/
def paschalMonthsUptoCard : Claim7 := { stood := { row := paschalMonthsUptoRow, standIns := [], harness := (true, "1237d3f1e50856818fa86864392605a27e6a3b74ca523ef2395e1d47a8fcbeee"), looks := false }, kinds := [], alts := [], laidByText := true, laidKinds := [.data, .data, .data, .data, .data], laidTests := true, laidLooks := .later }
def PaschalMonthsUptoCardSaid : Prop := Claim7.holds Tryd.pinned (.plain (OpenSpec.upto paschalMonthsSpec)) paschalMonthsUptoCard
end Rows
end Go.Proofs.YtodmpmcnlbkhhaaDoor
