/-
  DERIVED. GIVEN WITH THE SEED: THE CARDS: each row of YticpfciebpdkdaaDoorRows.lean that lists a variable, with what it lists TIED to the program's text (the seventh form; the later family's looks); each row that meets fmt, with fmt's text TOLD by the authors' own Lean function (tested against real Go, not proved from fmt's source: count such statements apart). THE CARD IS WHAT COUNTS. Prove the row's statement (the work); the ties are given (YticpfciebpdkdaaDoorTie.lean); close each card by the builder's one call (the guide's Derived/Test/ToyasCard.lean, 'card_holds'). Laid BY PROGRAM, IN A SANDBOX (cutbox-door.mjs). By AI agents, Wed Nov 11 2026. No macro, syntax, notation, axiom, sorry.
-/
import Derived.Test.YticpfciebpdkdaaDoorRows
import GoSem.ClaimSeven
namespace Go.Proofs.YticpfciebpdkdaaDoor
namespace Rows

/-- THE TIED CARD OF 'laws.FnExactCodeName'. -/
def fnExactCodeNameCard : Claim7 := { stood := { row := fnExactCodeNameRow, standIns := [], harness := (true, "f3baa1599e3ce6a2a9207ae641a0c8e2604fcd79278990cd54a50af6d3470114"), looks := false }, kinds := [], alts := [], laidByText := true, laidKinds := [.data], laidTests := true, laidLooks := .later }
def FnExactCodeNameCardSaid : Prop := Claim7.holds Tryd.pinned (.plain (OpenSpec.ofChange fnExactCodeNameSpec)) fnExactCodeNameCard

/-- THE TIED CARD OF 'laws.FnExactCodeOf'. -/
def fnExactCodeOfCard : Claim7 := { stood := { row := fnExactCodeOfRow, standIns := [], harness := (true, "f3baa1599e3ce6a2a9207ae641a0c8e2604fcd79278990cd54a50af6d3470114"), looks := false }, kinds := [], alts := [], laidByText := true, laidKinds := [.data], laidTests := true, laidLooks := .later }
def FnExactCodeOfCardSaid : Prop := Claim7.holds Tryd.pinned (.plain (OpenSpec.ofChange fnExactCodeOfSpec)) fnExactCodeOfCard

/-- THE TIED CARD OF 'laws.FnExactFormatAction'. -/
def fnExactFormatActionCard : Claim7 := { stood := { row := fnExactFormatActionRow, standIns := [], harness := (true, "f3baa1599e3ce6a2a9207ae641a0c8e2604fcd79278990cd54a50af6d3470114"), looks := false }, kinds := [], alts := [], laidByText := true, laidKinds := [.data, .data, .data, .data, .data], laidTests := true, laidLooks := .later }
def FnExactFormatActionCardSaid : Prop := Claim7.holds Tryd.pinned (.plain (OpenSpec.ofChange fnExactFormatActionSpec)) fnExactFormatActionCard

/-- THE TIED CARD OF 'laws.FnExactParseAction'. -/
def fnExactParseActionCard : Claim7 := { stood := { row := fnExactParseActionRow, standIns := [], harness := (true, "f3baa1599e3ce6a2a9207ae641a0c8e2604fcd79278990cd54a50af6d3470114"), looks := false }, kinds := [], alts := [], laidByText := true, laidKinds := [.data, .data, .data, .data, .data], laidTests := true, laidLooks := .later }
def FnExactParseActionCardSaid : Prop := Claim7.holds Tryd.pinned (.plain (OpenSpec.ofChange fnExactParseActionSpec)) fnExactParseActionCard

/-- THE SECOND FORM's CARD OF 'laws.FnExactCodeName'. -/
def fnExactCodeNameUptoCard : Claim7 := { stood := { row := fnExactCodeNameUptoRow, standIns := [], harness := (true, "f3baa1599e3ce6a2a9207ae641a0c8e2604fcd79278990cd54a50af6d3470114"), looks := false }, kinds := [], alts := [], laidByText := true, laidKinds := [.data], laidTests := true, laidLooks := .later }
def FnExactCodeNameUptoCardSaid : Prop := Claim7.holds Tryd.pinned (.plain (OpenSpec.upto fnExactCodeNameSpec)) fnExactCodeNameUptoCard

/-- THE SECOND FORM's CARD OF 'laws.FnExactCodeOf'. -/
def fnExactCodeOfUptoCard : Claim7 := { stood := { row := fnExactCodeOfUptoRow, standIns := [], harness := (true, "f3baa1599e3ce6a2a9207ae641a0c8e2604fcd79278990cd54a50af6d3470114"), looks := false }, kinds := [], alts := [], laidByText := true, laidKinds := [.data], laidTests := true, laidLooks := .later }
def FnExactCodeOfUptoCardSaid : Prop := Claim7.holds Tryd.pinned (.plain (OpenSpec.upto fnExactCodeOfSpec)) fnExactCodeOfUptoCard

/-- THE SECOND FORM's CARD OF 'laws.FnExactFormatAction'. -/
def fnExactFormatActionUptoCard : Claim7 := { stood := { row := fnExactFormatActionUptoRow, standIns := [], harness := (true, "f3baa1599e3ce6a2a9207ae641a0c8e2604fcd79278990cd54a50af6d3470114"), looks := false }, kinds := [], alts := [], laidByText := true, laidKinds := [.data, .data, .data, .data, .data], laidTests := true, laidLooks := .later }
def FnExactFormatActionUptoCardSaid : Prop := Claim7.holds Tryd.pinned (.plain (OpenSpec.upto fnExactFormatActionSpec)) fnExactFormatActionUptoCard

/-- THE SECOND FORM's CARD OF 'laws.FnExactParseAction'. -/
def fnExactParseActionUptoCard : Claim7 := { stood := { row := fnExactParseActionUptoRow, standIns := [], harness := (true, "f3baa1599e3ce6a2a9207ae641a0c8e2604fcd79278990cd54a50af6d3470114"), looks := false }, kinds := [], alts := [], laidByText := true, laidKinds := [.data, .data, .data, .data, .data], laidTests := true, laidLooks := .later }
def FnExactParseActionUptoCardSaid : Prop := Claim7.holds Tryd.pinned (.plain (OpenSpec.upto fnExactParseActionSpec)) fnExactParseActionUptoCard
end Rows
end Go.Proofs.YticpfciebpdkdaaDoor
