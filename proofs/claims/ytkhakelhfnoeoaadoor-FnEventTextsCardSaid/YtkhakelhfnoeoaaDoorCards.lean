/-
  DERIVED. GIVEN WITH THE SEED: THE CARDS: each row of YtkhakelhfnoeoaaDoorRows.lean that lists a variable, with what it lists TIED to the program's text (the seventh form; the later family's looks); each row that meets fmt, with fmt's text TOLD by the authors' own Lean function (tested against real Go, not proved from fmt's source: count such statements apart). THE CARD IS WHAT COUNTS. Prove the row's statement (the work); the ties are given (YtkhakelhfnoeoaaDoorTie.lean); close each card by the builder's one call (the guide's Derived/Test/ToyasCard.lean, 'card_holds'). Laid BY PROGRAM, IN A SANDBOX (cutbox-door.mjs). By AI agents, Wed Nov 11 2026. No macro, syntax, notation, axiom, sorry.
-/
import Derived.Test.YtkhakelhfnoeoaaDoorRows
import GoSem.ClaimSeven
namespace Go.Proofs.YtkhakelhfnoeoaaDoor
namespace Rows

/-- THE TIED CARD OF 'laws.FnEventTexts'. -/
def fnEventTextsCard : Claim7 := { stood := { row := fnEventTextsRow, standIns := [], harness := (true, "789e994698c9de05ce8e6372ce23b1ee31d72fe9cdfaf1331046c53f3b901452"), looks := false }, kinds := [], alts := [], laidByText := true, laidKinds := [.data, .data, .data], laidTests := true, laidLooks := .later }
def FnEventTextsCardSaid : Prop := Claim7.holds Tryd.pinned (.plain (OpenSpec.ofChange fnEventTextsSpec)) fnEventTextsCard

/-- THE TIED CARD OF 'laws.FnExactFormatEvents'. -/
def fnExactFormatEventsCard : Claim7 := { stood := { row := fnExactFormatEventsRow, standIns := [], harness := (true, "789e994698c9de05ce8e6372ce23b1ee31d72fe9cdfaf1331046c53f3b901452"), looks := false }, kinds := [], alts := [], laidByText := true, laidKinds := [.data, .data, .data], laidTests := true, laidLooks := .later }
def FnExactFormatEventsCardSaid : Prop := Claim7.holds Tryd.pinned (.plain (OpenSpec.ofChange fnExactFormatEventsSpec)) fnExactFormatEventsCard

/-- THE TIED CARD OF 'laws.FnExactParseEvents'. -/
def fnExactParseEventsCard : Claim7 := { stood := { row := fnExactParseEventsRow, standIns := [], harness := (true, "789e994698c9de05ce8e6372ce23b1ee31d72fe9cdfaf1331046c53f3b901452"), looks := false }, kinds := [], alts := [], laidByText := true, laidKinds := [.data, .data, .data], laidTests := true, laidLooks := .later }
def FnExactParseEventsCardSaid : Prop := Claim7.holds Tryd.pinned (.plain (OpenSpec.ofChange fnExactParseEventsSpec)) fnExactParseEventsCard

/-- THE SECOND FORM's CARD OF 'laws.FnEventTexts'. -/
def fnEventTextsUptoCard : Claim7 := { stood := { row := fnEventTextsUptoRow, standIns := [], harness := (true, "789e994698c9de05ce8e6372ce23b1ee31d72fe9cdfaf1331046c53f3b901452"), looks := false }, kinds := [], alts := [], laidByText := true, laidKinds := [.data, .data, .data], laidTests := true, laidLooks := .later }
def FnEventTextsUptoCardSaid : Prop := Claim7.holds Tryd.pinned (.plain (OpenSpec.upto fnEventTextsSpec)) fnEventTextsUptoCard

/-- THE SECOND FORM's CARD OF 'laws.FnExactFormatEvents'. -/
def fnExactFormatEventsUptoCard : Claim7 := { stood := { row := fnExactFormatEventsUptoRow, standIns := [], harness := (true, "789e994698c9de05ce8e6372ce23b1ee31d72fe9cdfaf1331046c53f3b901452"), looks := false }, kinds := [], alts := [], laidByText := true, laidKinds := [.data, .data, .data], laidTests := true, laidLooks := .later }
def FnExactFormatEventsUptoCardSaid : Prop := Claim7.holds Tryd.pinned (.plain (OpenSpec.upto fnExactFormatEventsSpec)) fnExactFormatEventsUptoCard

/-- THE SECOND FORM's CARD OF 'laws.FnExactParseEvents'. -/
def fnExactParseEventsUptoCard : Claim7 := { stood := { row := fnExactParseEventsUptoRow, standIns := [], harness := (true, "789e994698c9de05ce8e6372ce23b1ee31d72fe9cdfaf1331046c53f3b901452"), looks := false }, kinds := [], alts := [], laidByText := true, laidKinds := [.data, .data, .data], laidTests := true, laidLooks := .later }
def FnExactParseEventsUptoCardSaid : Prop := Claim7.holds Tryd.pinned (.plain (OpenSpec.upto fnExactParseEventsSpec)) fnExactParseEventsUptoCard
end Rows
end Go.Proofs.YtkhakelhfnoeoaaDoor
