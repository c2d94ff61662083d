/-
  DERIVED. GIVEN WITH THE SEED: THE CARDS: each row of YtleheibpgngmiaaDoorRows.lean that lists a variable, with what it lists TIED to the program's text (the seventh form; the later family's looks); each row that meets fmt, with fmt's text TOLD by the authors' own Lean function (tested against real Go, not proved from fmt's source: count such statements apart). THE CARD IS WHAT COUNTS. Prove the row's statement (the work); the ties are given (YtleheibpgngmiaaDoorTie.lean); close each card by the builder's one call (the guide's Derived/Test/ToyasCard.lean, 'card_holds'). Laid BY PROGRAM, IN A SANDBOX (cutbox-door.mjs). By AI agents, Wed Nov 11 2026. No macro, syntax, notation, axiom, sorry.
-/
import Derived.Test.YtleheibpgngmiaaDoorRows
import GoSem.ClaimSeven
namespace Go.Proofs.YtleheibpgngmiaaDoor
namespace Rows

/-- THE TIED CARD OF 'laws.FnNumbers'. -/
def fnNumbersCard : Claim7 := { stood := { row := fnNumbersRow, standIns := [], harness := (true, "217da3a89f1117ee5c62899a9d6f243d8e13195b3857929ecc615fe5bc5765d3"), looks := false }, kinds := [], alts := [], laidByText := true, laidKinds := [.data, .data, .data], laidTests := true, laidLooks := .later }
def FnNumbersCardSaid : Prop := Claim7.holds Tryd.pinned (.plain (OpenSpec.ofChange fnNumbersSpec)) fnNumbersCard

/-- THE TIED CARD OF 'laws.FnActions'. -/
def fnActionsCard : Claim7 := { stood := { row := fnActionsRow, standIns := [], harness := (true, "217da3a89f1117ee5c62899a9d6f243d8e13195b3857929ecc615fe5bc5765d3"), looks := false }, kinds := [], alts := [], laidByText := true, laidKinds := [.data, .data, .data, .data, .data], laidTests := true, laidLooks := .later }
def FnActionsCardSaid : Prop := Claim7.holds Tryd.pinned (.plain (OpenSpec.ofChange fnActionsSpec)) fnActionsCard

/-- THE TIED CARD OF 'laws.FnKeymaps'. -/
def fnKeymapsCard : Claim7 := { stood := { row := fnKeymapsRow, standIns := [], harness := (true, "217da3a89f1117ee5c62899a9d6f243d8e13195b3857929ecc615fe5bc5765d3"), looks := false }, kinds := [], alts := [], laidByText := true, laidKinds := [.data, .data, .data, .data, .data, .data, .pinned], laidTests := true, laidLooks := .later }
def FnKeymapsCardSaid : Prop := Claim7.holds Tryd.pinned (.plain (OpenSpec.ofChange fnKeymapsSpec)) fnKeymapsCard

/-- THE TIED CARD OF 'laws.FnExactFormatKeymap'. -/
def fnExactFormatKeymapCard : Claim7 := { stood := { row := fnExactFormatKeymapRow, standIns := [], harness := (true, "217da3a89f1117ee5c62899a9d6f243d8e13195b3857929ecc615fe5bc5765d3"), looks := false }, kinds := [], alts := [], laidByText := true, laidKinds := [.data, .data, .data, .data, .data], laidTests := true, laidLooks := .later }
def FnExactFormatKeymapCardSaid : Prop := Claim7.holds Tryd.pinned (.plain (OpenSpec.ofChange fnExactFormatKeymapSpec)) fnExactFormatKeymapCard

/-- THE TIED CARD OF 'laws.FnExactParseKeymap'. -/
def fnExactParseKeymapCard : Claim7 := { stood := { row := fnExactParseKeymapRow, standIns := [], harness := (true, "217da3a89f1117ee5c62899a9d6f243d8e13195b3857929ecc615fe5bc5765d3"), looks := false }, kinds := [], alts := [], laidByText := true, laidKinds := [.data, .data, .data, .data, .data, .data, .pinned], laidTests := true, laidLooks := .later }
def FnExactParseKeymapCardSaid : Prop := Claim7.holds Tryd.pinned (.plain (OpenSpec.ofChange fnExactParseKeymapSpec)) fnExactParseKeymapCard

/-- THE SECOND FORM's CARD OF 'laws.FnNumbers'. -/
def fnNumbersUptoCard : Claim7 := { stood := { row := fnNumbersUptoRow, standIns := [], harness := (true, "217da3a89f1117ee5c62899a9d6f243d8e13195b3857929ecc615fe5bc5765d3"), looks := false }, kinds := [], alts := [], laidByText := true, laidKinds := [.data, .data, .data], laidTests := true, laidLooks := .later }
def FnNumbersUptoCardSaid : Prop := Claim7.holds Tryd.pinned (.plain (OpenSpec.upto fnNumbersSpec)) fnNumbersUptoCard

/-- THE SECOND FORM's CARD OF 'laws.FnActions'. -/
def fnActionsUptoCard : Claim7 := { stood := { row := fnActionsUptoRow, standIns := [], harness := (true, "217da3a89f1117ee5c62899a9d6f243d8e13195b3857929ecc615fe5bc5765d3"), looks := false }, kinds := [], alts := [], laidByText := true, laidKinds := [.data, .data, .data, .data, .data], laidTests := true, laidLooks := .later }
def FnActionsUptoCardSaid : Prop := Claim7.holds Tryd.pinned (.plain (OpenSpec.upto fnActionsSpec)) fnActionsUptoCard

/-- THE SECOND FORM's CARD OF 'laws.FnKeymaps'. -/
def fnKeymapsUptoCard : Claim7 := { stood := { row := fnKeymapsUptoRow, standIns := [], harness := (true, "217da3a89f1117ee5c62899a9d6f243d8e13195b3857929ecc615fe5bc5765d3"), looks := false }, kinds := [], alts := [], laidByText := true, laidKinds := [.data, .data, .data, .data, .data, .data, .pinned], laidTests := true, laidLooks := .later }
def FnKeymapsUptoCardSaid : Prop := Claim7.holds Tryd.pinned (.plain (OpenSpec.upto fnKeymapsSpec)) fnKeymapsUptoCard

/-- THE SECOND FORM's CARD OF 'laws.FnExactFormatKeymap'. -/
def fnExactFormatKeymapUptoCard : Claim7 := { stood := { row := fnExactFormatKeymapUptoRow, standIns := [], harness := (true, "217da3a89f1117ee5c62899a9d6f243d8e13195b3857929ecc615fe5bc5765d3"), looks := false }, kinds := [], alts := [], laidByText := true, laidKinds := [.data, .data, .data, .data, .data], laidTests := true, laidLooks := .later }
def FnExactFormatKeymapUptoCardSaid : Prop := Claim7.holds Tryd.pinned (.plain (OpenSpec.upto fnExactFormatKeymapSpec)) fnExactFormatKeymapUptoCard

/-- THE SECOND FORM's CARD OF 'laws.FnExactParseKeymap'. -/
def fnExactParseKeymapUptoCard : Claim7 := { stood := { row := fnExactParseKeymapUptoRow, standIns := [], harness := (true, "217da3a89f1117ee5c62899a9d6f243d8e13195b3857929ecc615fe5bc5765d3"), looks := false }, kinds := [], alts := [], laidByText := true, laidKinds := [.data, .data, .data, .data, .data, .data, .pinned], laidTests := true, laidLooks := .later }
def FnExactParseKeymapUptoCardSaid : Prop := Claim7.holds Tryd.pinned (.plain (OpenSpec.upto fnExactParseKeymapSpec)) fnExactParseKeymapUptoCard
end Rows
end Go.Proofs.YtleheibpgngmiaaDoor
