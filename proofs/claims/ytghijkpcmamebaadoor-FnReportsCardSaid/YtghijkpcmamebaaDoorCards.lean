/-
  DERIVED. GIVEN WITH THE SEED: THE CARDS: each row of YtghijkpcmamebaaDoorRows.lean that lists a variable, with what it lists TIED to the program's text (the seventh form; the later family's looks); each row that meets fmt, with fmt's text TOLD by the authors' own Lean function (tested against real Go, not proved from fmt's source: count such statements apart). THE CARD IS WHAT COUNTS. Prove the row's statement (the work); the ties are given (YtghijkpcmamebaaDoorTie.lean); close each card by the builder's one call (the guide's Derived/Test/ToyasCard.lean, 'card_holds'). Laid BY PROGRAM, IN A SANDBOX (cutbox-door.mjs). By AI agents, Wed Nov 11 2026. No macro, syntax, notation, axiom, sorry.
-/
import Derived.Test.YtghijkpcmamebaaDoorRows
import GoSem.ClaimSeven
namespace Go.Proofs.YtghijkpcmamebaaDoor
namespace Rows

/-- THE TIED CARD OF 'laws.FnReports'. -/
def fnReportsCard : Claim7 := { stood := { row := fnReportsRow, standIns := [], harness := (true, "6968fdb400bf74d7bdfe565ae4e6283f8ff182fbfd6f8ffde3c80d1d26b0de0a"), looks := false }, kinds := [], alts := [], laidByText := true, laidKinds := [.data, .data], laidTests := true, laidLooks := .later }
def FnReportsCardSaid : Prop := Claim7.holds Tryd.pinned (.plain (OpenSpec.ofChange fnReportsSpec)) fnReportsCard

/-- THE TIED CARD OF 'laws.FnExactFormatReport'. -/
def fnExactFormatReportCard : Claim7 := { stood := { row := fnExactFormatReportRow, standIns := [], harness := (true, "6968fdb400bf74d7bdfe565ae4e6283f8ff182fbfd6f8ffde3c80d1d26b0de0a"), looks := false }, kinds := [], alts := [], laidByText := true, laidKinds := [.data], laidTests := true, laidLooks := .later }
def FnExactFormatReportCardSaid : Prop := Claim7.holds Tryd.pinned (.plain (OpenSpec.ofChange fnExactFormatReportSpec)) fnExactFormatReportCard

/-- THE TIED CARD OF 'laws.FnExactParseReport'. -/
def fnExactParseReportCard : Claim7 := { stood := { row := fnExactParseReportRow, standIns := [], harness := (true, "6968fdb400bf74d7bdfe565ae4e6283f8ff182fbfd6f8ffde3c80d1d26b0de0a"), looks := false }, kinds := [], alts := [], laidByText := true, laidKinds := [.data], laidTests := true, laidLooks := .later }
def FnExactParseReportCardSaid : Prop := Claim7.holds Tryd.pinned (.plain (OpenSpec.ofChange fnExactParseReportSpec)) fnExactParseReportCard

/-- THE TIED CARD OF 'laws.FnExactBootBytes'. -/
def fnExactBootBytesCard : Claim7 := { stood := { row := fnExactBootBytesRow, standIns := [], harness := (true, "6968fdb400bf74d7bdfe565ae4e6283f8ff182fbfd6f8ffde3c80d1d26b0de0a"), looks := false }, kinds := [], alts := [], laidByText := true, laidKinds := [.data], laidTests := true, laidLooks := .later }
def FnExactBootBytesCardSaid : Prop := Claim7.holds Tryd.pinned (.plain (OpenSpec.ofChange fnExactBootBytesSpec)) fnExactBootBytesCard

/-- THE TIED CARD OF 'laws.FnExactReadBoot'. -/
def fnExactReadBootCard : Claim7 := { stood := { row := fnExactReadBootRow, standIns := [], harness := (true, "6968fdb400bf74d7bdfe565ae4e6283f8ff182fbfd6f8ffde3c80d1d26b0de0a"), looks := false }, kinds := [], alts := [], laidByText := true, laidKinds := [.data], laidTests := true, laidLooks := .later }
def FnExactReadBootCardSaid : Prop := Claim7.holds Tryd.pinned (.plain (OpenSpec.ofChange fnExactReadBootSpec)) fnExactReadBootCard

/-- THE SECOND FORM's CARD OF 'laws.FnReports'. -/
def fnReportsUptoCard : Claim7 := { stood := { row := fnReportsUptoRow, standIns := [], harness := (true, "6968fdb400bf74d7bdfe565ae4e6283f8ff182fbfd6f8ffde3c80d1d26b0de0a"), looks := false }, kinds := [], alts := [], laidByText := true, laidKinds := [.data, .data], laidTests := true, laidLooks := .later }
def FnReportsUptoCardSaid : Prop := Claim7.holds Tryd.pinned (.plain (OpenSpec.upto fnReportsSpec)) fnReportsUptoCard

/-- THE SECOND FORM's CARD OF 'laws.FnExactFormatReport'. -/
def fnExactFormatReportUptoCard : Claim7 := { stood := { row := fnExactFormatReportUptoRow, standIns := [], harness := (true, "6968fdb400bf74d7bdfe565ae4e6283f8ff182fbfd6f8ffde3c80d1d26b0de0a"), looks := false }, kinds := [], alts := [], laidByText := true, laidKinds := [.data], laidTests := true, laidLooks := .later }
def FnExactFormatReportUptoCardSaid : Prop := Claim7.holds Tryd.pinned (.plain (OpenSpec.upto fnExactFormatReportSpec)) fnExactFormatReportUptoCard

/-- THE SECOND FORM's CARD OF 'laws.FnExactParseReport'. -/
def fnExactParseReportUptoCard : Claim7 := { stood := { row := fnExactParseReportUptoRow, standIns := [], harness := (true, "6968fdb400bf74d7bdfe565ae4e6283f8ff182fbfd6f8ffde3c80d1d26b0de0a"), looks := false }, kinds := [], alts := [], laidByText := true, laidKinds := [.data], laidTests := true, laidLooks := .later }
def FnExactParseReportUptoCardSaid : Prop := Claim7.holds Tryd.pinned (.plain (OpenSpec.upto fnExactParseReportSpec)) fnExactParseReportUptoCard

/-- THE SECOND FORM's CARD OF 'laws.FnExactBootBytes'. -/
def fnExactBootBytesUptoCard : Claim7 := { stood := { row := fnExactBootBytesUptoRow, standIns := [], harness := (true, "6968fdb400bf74d7bdfe565ae4e6283f8ff182fbfd6f8ffde3c80d1d26b0de0a"), looks := false }, kinds := [], alts := [], laidByText := true, laidKinds := [.data], laidTests := true, laidLooks := .later }
def FnExactBootBytesUptoCardSaid : Prop := Claim7.holds Tryd.pinned (.plain (OpenSpec.upto fnExactBootBytesSpec)) fnExactBootBytesUptoCard

/-- THE SECOND FORM's CARD OF 'laws.FnExactReadBoot'. -/
def fnExactReadBootUptoCard : Claim7 := { stood := { row := fnExactReadBootUptoRow, standIns := [], harness := (true, "6968fdb400bf74d7bdfe565ae4e6283f8ff182fbfd6f8ffde3c80d1d26b0de0a"), looks := false }, kinds := [], alts := [], laidByText := true, laidKinds := [.data], laidTests := true, laidLooks := .later }
def FnExactReadBootUptoCardSaid : Prop := Claim7.holds Tryd.pinned (.plain (OpenSpec.upto fnExactReadBootSpec)) fnExactReadBootUptoCard
end Rows
end Go.Proofs.YtghijkpcmamebaaDoor
