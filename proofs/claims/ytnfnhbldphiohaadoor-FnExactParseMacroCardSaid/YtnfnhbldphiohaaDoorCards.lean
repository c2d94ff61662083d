/-
  DERIVED. GIVEN WITH THE SEED: THE CARDS: each row of YtnfnhbldphiohaaDoorRows.lean that lists a variable, with what it lists TIED to the program's text (the seventh form; the later family's looks); each row that meets fmt, with fmt's text TOLD by the authors' own Lean function (tested against real Go, not proved from fmt's source: count such statements apart). THE CARD IS WHAT COUNTS. Prove the row's statement (the work); the ties are given (YtnfnhbldphiohaaDoorTie.lean); close each card by the builder's one call (the guide's Derived/Test/ToyasCard.lean, 'card_holds'). Laid BY PROGRAM, IN A SANDBOX (cutbox-door.mjs). By AI agents, Wed Nov 11 2026. No macro, syntax, notation, axiom, sorry.
-/
import Derived.Test.YtnfnhbldphiohaaDoorRows
import GoSem.ClaimSeven
namespace Go.Proofs.YtnfnhbldphiohaaDoor
namespace Rows

/-- THE TIED CARD OF 'laws.FnMacros'. -/
def fnMacrosCard : Claim7 := { stood := { row := fnMacrosRow, standIns := [], harness := (true, "9e94d2cb5997ca2d1c67b5c51bcacd7bd39a996914800d3b222e9a33f4c2a3f3"), looks := false }, kinds := [], alts := [], laidByText := true, laidKinds := [.data, .data, .data, .data, .data], laidTests := true, laidLooks := .later }
def FnMacrosCardSaid : Prop := Claim7.holds Tryd.pinned (.plain (OpenSpec.ofChange fnMacrosSpec)) fnMacrosCard

/-- THE TIED CARD OF 'laws.FnExactFormatMacro'. -/
def fnExactFormatMacroCard : Claim7 := { stood := { row := fnExactFormatMacroRow, standIns := [], harness := (true, "9e94d2cb5997ca2d1c67b5c51bcacd7bd39a996914800d3b222e9a33f4c2a3f3"), looks := false }, kinds := [], alts := [], laidByText := true, laidKinds := [.data, .data, .data, .data, .data], laidTests := true, laidLooks := .later }
def FnExactFormatMacroCardSaid : Prop := Claim7.holds Tryd.pinned (.plain (OpenSpec.ofChange fnExactFormatMacroSpec)) fnExactFormatMacroCard

/-- THE TIED CARD OF 'laws.FnExactParseMacro'. -/
def fnExactParseMacroCard : Claim7 := { stood := { row := fnExactParseMacroRow, standIns := [], harness := (true, "9e94d2cb5997ca2d1c67b5c51bcacd7bd39a996914800d3b222e9a33f4c2a3f3"), looks := false }, kinds := [], alts := [], laidByText := true, laidKinds := [.data, .data, .data, .data, .data], laidTests := true, laidLooks := .later }
def FnExactParseMacroCardSaid : Prop := Claim7.holds Tryd.pinned (.plain (OpenSpec.ofChange fnExactParseMacroSpec)) fnExactParseMacroCard

/-- THE SECOND FORM's CARD OF 'laws.FnMacros'. -/
def fnMacrosUptoCard : Claim7 := { stood := { row := fnMacrosUptoRow, standIns := [], harness := (true, "9e94d2cb5997ca2d1c67b5c51bcacd7bd39a996914800d3b222e9a33f4c2a3f3"), looks := false }, kinds := [], alts := [], laidByText := true, laidKinds := [.data, .data, .data, .data, .data], laidTests := true, laidLooks := .later }
def FnMacrosUptoCardSaid : Prop := Claim7.holds Tryd.pinned (.plain (OpenSpec.upto fnMacrosSpec)) fnMacrosUptoCard

/-- THE SECOND FORM's CARD OF 'laws.FnExactFormatMacro'. -/
def fnExactFormatMacroUptoCard : Claim7 := { stood := { row := fnExactFormatMacroUptoRow, standIns := [], harness := (true, "9e94d2cb5997ca2d1c67b5c51bcacd7bd39a996914800d3b222e9a33f4c2a3f3"), looks := false }, kinds := [], alts := [], laidByText := true, laidKinds := [.data, .data, .data, .data, .data], laidTests := true, laidLooks := .later }
def FnExactFormatMacroUptoCardSaid : Prop := Claim7.holds Tryd.pinned (.plain (OpenSpec.upto fnExactFormatMacroSpec)) fnExactFormatMacroUptoCard

/-- THE SECOND FORM's CARD OF 'laws.FnExactParseMacro'. -/
def fnExactParseMacroUptoCard : Claim7 := { stood := { row := fnExactParseMacroUptoRow, standIns := [], harness := (true, "9e94d2cb5997ca2d1c67b5c51bcacd7bd39a996914800d3b222e9a33f4c2a3f3"), looks := false }, kinds := [], alts := [], laidByText := true, laidKinds := [.data, .data, .data, .data, .data], laidTests := true, laidLooks := .later }
def FnExactParseMacroUptoCardSaid : Prop := Claim7.holds Tryd.pinned (.plain (OpenSpec.upto fnExactParseMacroSpec)) fnExactParseMacroUptoCard
end Rows
end Go.Proofs.YtnfnhbldphiohaaDoor
