/-
  No cell of these rows narrows 'for every input' (looked for: loops, veiled, ifaces, maps, wideKeys, modest, calm, conditions, laid).
  DERIVED. THE GIVEN ROWS OF THIS SEAT. 15 by the template 'for every input the law returns true; each argument reads behind the call as it read before'; 0 by the template 'total and deterministic' (their statements: YteljmfdlegohbaaTotals.lean).
  GIVEN WITH THE SEED: the statements are not yours to turn. If you find one false, say at which input.
  Laid BY PROGRAM, IN A SANDBOX (cutbox-rows.mjs): the forced cells as the released guide's own fill.sh prints them over the translation a418a3cacbfa69a7… (all of the seat's roots in one cut). By AI agents, Wed Nov 11 2026. No macro, syntax, notation, axiom, sorry.
-/
import Derived.Test.YteljmfdlegohbaaChecked
import GoSem.Claim
import GoSem.ClaimJoined
import GoSem.ClaimMapViews
import Derived.JoinedTies
import Derived.KernelRfl
namespace Go.Proofs.Yteljmfdlegohbaa
/- THE CELL 'sum', in the pinned program and in every row, IS THE sha256 OF THE DUMP (.gsa) THAT YteljmfdlegohbaaProg.lean LOADS. Nothing in Lean hashes anything: it is a label: what it is worth is what the hold of that sum in a sandbox is worth. -/
noncomputable def Try.pinned : Pinned := { name := "yteljmfdlegohbaa", sum := "a418a3cacbfa69a7105673bc7f15c6a34bb27bff4bc34226a6077c172f6fdf97", checked := Try.checked }
namespace Rows
def none {H : Type} : Left H := { results := [], args := [] }

/-- 'laws.FnCombined': WHATEVER THE INPUT: true; the input reads as it did. -/
def fnCombinedSpec : ChangeSpec := { name := "fnCombined", fn := fun _ => fun
  | [d] => { results := [.lit (.bool true)], args := [d] }
  | _ => none }
def fnCombinedRow : OpenClaim := { program := "yteljmfdlegohbaa", sum := "a418a3cacbfa69a7105673bc7f15c6a34bb27bff4bc34226a6077c172f6fdf97", func := "loop.example/g03414/laws.FnCombined", spec := "fnCombined", unfollowed := true, recurses := true, apart := false }
def FnCombinedSaid : Prop := fnCombinedRow.holds Try.pinned (OpenSpec.ofChange fnCombinedSpec)

/-- ITS FALSE NEIGHBOUR: 'it returns false'. Refute it at one input. -/
def fnCombinedWrong : ChangeSpec := { name := "fnCombined", fn := fun _ => fun
  | [d] => { results := [.lit (.bool false)], args := [d] }
  | _ => none }
def FnCombinedWrongFalsely : Prop := fnCombinedRow.holds Try.pinned (OpenSpec.ofChange fnCombinedWrong)

/-- 'laws.FnComboEvents': WHATEVER THE INPUT: true; the input reads as it did. -/
def fnComboEventsSpec : ChangeSpec := { name := "fnComboEvents", fn := fun _ => fun
  | [d] => { results := [.lit (.bool true)], args := [d] }
  | _ => none }
def fnComboEventsRow : OpenClaim := { program := "yteljmfdlegohbaa", sum := "a418a3cacbfa69a7105673bc7f15c6a34bb27bff4bc34226a6077c172f6fdf97", func := "loop.example/g03414/laws.FnComboEvents", spec := "fnComboEvents", unfollowed := true, recurses := true, apart := false }
def FnComboEventsSaid : Prop := fnComboEventsRow.holds Try.pinned (OpenSpec.ofChange fnComboEventsSpec)

/-- ITS FALSE NEIGHBOUR: 'it returns false'. Refute it at one input. -/
def fnComboEventsWrong : ChangeSpec := { name := "fnComboEvents", fn := fun _ => fun
  | [d] => { results := [.lit (.bool false)], args := [d] }
  | _ => none }
def FnComboEventsWrongFalsely : Prop := fnComboEventsRow.holds Try.pinned (OpenSpec.ofChange fnComboEventsWrong)

/-- 'laws.FnNoCombos': WHATEVER THE INPUT: true; the input reads as it did. -/
def fnNoCombosSpec : ChangeSpec := { name := "fnNoCombos", fn := fun _ => fun
  | [d] => { results := [.lit (.bool true)], args := [d] }
  | _ => none }
def fnNoCombosRow : OpenClaim := { program := "yteljmfdlegohbaa", sum := "a418a3cacbfa69a7105673bc7f15c6a34bb27bff4bc34226a6077c172f6fdf97", func := "loop.example/g03414/laws.FnNoCombos", spec := "fnNoCombos", unfollowed := true, recurses := true, apart := false }
def FnNoCombosSaid : Prop := fnNoCombosRow.holds Try.pinned (OpenSpec.ofChange fnNoCombosSpec)

/-- ITS FALSE NEIGHBOUR: 'it returns false'. Refute it at one input. -/
def fnNoCombosWrong : ChangeSpec := { name := "fnNoCombos", fn := fun _ => fun
  | [d] => { results := [.lit (.bool false)], args := [d] }
  | _ => none }
def FnNoCombosWrongFalsely : Prop := fnNoCombosRow.holds Try.pinned (OpenSpec.ofChange fnNoCombosWrong)

/-- 'laws.FnCharacters': WHATEVER THE INPUT: true; the input reads as it did. -/
def fnCharactersSpec : ChangeSpec := { name := "fnCharacters", fn := fun _ => fun
  | [d] => { results := [.lit (.bool true)], args := [d] }
  | _ => none }
def fnCharactersRow : OpenClaim := { program := "yteljmfdlegohbaa", sum := "a418a3cacbfa69a7105673bc7f15c6a34bb27bff4bc34226a6077c172f6fdf97", func := "loop.example/g03414/laws.FnCharacters", spec := "fnCharacters", inPlace := ["internal/bytealg.IndexByteString", "internal/abi.NoEscape"], unfollowed := true, recurses := true, apart := false }
def FnCharactersSaid : Prop := fnCharactersRow.holds Try.pinned (OpenSpec.ofChange fnCharactersSpec)

/-- ITS FALSE NEIGHBOUR: 'it returns false'. Refute it at one input. -/
def fnCharactersWrong : ChangeSpec := { name := "fnCharacters", fn := fun _ => fun
  | [d] => { results := [.lit (.bool false)], args := [d] }
  | _ => none }
def FnCharactersWrongFalsely : Prop := fnCharactersRow.holds Try.pinned (OpenSpec.ofChange fnCharactersWrong)

/-- 'laws.FnComboPrompt': WHATEVER THE INPUT: true; the input reads as it did. -/
def fnComboPromptSpec : ChangeSpec := { name := "fnComboPrompt", fn := fun _ => fun
  | [d] => { results := [.lit (.bool true)], args := [d] }
  | _ => none }
def fnComboPromptRow : OpenClaim := { program := "yteljmfdlegohbaa", sum := "a418a3cacbfa69a7105673bc7f15c6a34bb27bff4bc34226a6077c172f6fdf97", func := "loop.example/g03414/laws.FnComboPrompt", spec := "fnComboPrompt", unfollowed := true, recurses := true, apart := false }
def FnComboPromptSaid : Prop := fnComboPromptRow.holds Try.pinned (OpenSpec.ofChange fnComboPromptSpec)

/-- ITS FALSE NEIGHBOUR: 'it returns false'. Refute it at one input. -/
def fnComboPromptWrong : ChangeSpec := { name := "fnComboPrompt", fn := fun _ => fun
  | [d] => { results := [.lit (.bool false)], args := [d] }
  | _ => none }
def FnComboPromptWrongFalsely : Prop := fnComboPromptRow.holds Try.pinned (OpenSpec.ofChange fnComboPromptWrong)

/-- 'laws.FnExactSameSent': WHATEVER THE INPUT: true; the input reads as it did. -/
def fnExactSameSentSpec : ChangeSpec := { name := "fnExactSameSent", fn := fun _ => fun
  | [d1, d2] => { results := [.lit (.bool true)], args := [d1, d2] }
  | _ => none }
def fnExactSameSentRow : OpenClaim := { program := "yteljmfdlegohbaa", sum := "a418a3cacbfa69a7105673bc7f15c6a34bb27bff4bc34226a6077c172f6fdf97", func := "loop.example/g03414/laws.FnExactSameSent", spec := "fnExactSameSent", unfollowed := true, recurses := true, apart := false }
def FnExactSameSentSaid : Prop := fnExactSameSentRow.holds Try.pinned (OpenSpec.ofChange fnExactSameSentSpec)

/-- ITS FALSE NEIGHBOUR: 'it returns false'. Refute it at one input. -/
def fnExactSameSentWrong : ChangeSpec := { name := "fnExactSameSent", fn := fun _ => fun
  | [d1, d2] => { results := [.lit (.bool false)], args := [d1, d2] }
  | _ => none }
def FnExactSameSentWrongFalsely : Prop := fnExactSameSentRow.holds Try.pinned (OpenSpec.ofChange fnExactSameSentWrong)

/-- 'laws.FnExactCombineEvents': WHATEVER THE INPUT: true; the input reads as it did. -/
def fnExactCombineEventsSpec : ChangeSpec := { name := "fnExactCombineEvents", fn := fun _ => fun
  | [d1, d2, d3] => { results := [.lit (.bool true)], args := [d1, d2, d3] }
  | _ => none }
def fnExactCombineEventsRow : OpenClaim := { program := "yteljmfdlegohbaa", sum := "a418a3cacbfa69a7105673bc7f15c6a34bb27bff4bc34226a6077c172f6fdf97", func := "loop.example/g03414/laws.FnExactCombineEvents", spec := "fnExactCombineEvents", unfollowed := true, recurses := true, apart := false }
def FnExactCombineEventsSaid : Prop := fnExactCombineEventsRow.holds Try.pinned (OpenSpec.ofChange fnExactCombineEventsSpec)

/-- ITS FALSE NEIGHBOUR: 'it returns false'. Refute it at one input. -/
def fnExactCombineEventsWrong : ChangeSpec := { name := "fnExactCombineEvents", fn := fun _ => fun
  | [d1, d2, d3] => { results := [.lit (.bool false)], args := [d1, d2, d3] }
  | _ => none }
def FnExactCombineEventsWrongFalsely : Prop := fnExactCombineEventsRow.holds Try.pinned (OpenSpec.ofChange fnExactCombineEventsWrong)

/-- 'laws.FnExactCombineEvent': WHATEVER THE INPUT: true; the input reads as it did. -/
def fnExactCombineEventSpec : ChangeSpec := { name := "fnExactCombineEvent", fn := fun _ => fun
  | [d1, d2] => { results := [.lit (.bool true)], args := [d1, d2] }
  | _ => none }
def fnExactCombineEventRow : OpenClaim := { program := "yteljmfdlegohbaa", sum := "a418a3cacbfa69a7105673bc7f15c6a34bb27bff4bc34226a6077c172f6fdf97", func := "loop.example/g03414/laws.FnExactCombineEvent", spec := "fnExactCombineEvent", unfollowed := true, recurses := true, apart := false }
def FnExactCombineEventSaid : Prop := fnExactCombineEventRow.holds Try.pinned (OpenSpec.ofChange fnExactCombineEventSpec)

/-- ITS FALSE NEIGHBOUR: 'it returns false'. Refute it at one input. -/
def fnExactCombineEventWrong : ChangeSpec := { name := "fnExactCombineEvent", fn := fun _ => fun
  | [d1, d2] => { results := [.lit (.bool false)], args := [d1, d2] }
  | _ => none }
def FnExactCombineEventWrongFalsely : Prop := fnExactCombineEventRow.holds Try.pinned (OpenSpec.ofChange fnExactCombineEventWrong)

/-- 'laws.FnExactCombineWait': WHATEVER THE INPUT: true; the input reads as it did. -/
def fnExactCombineWaitSpec : ChangeSpec := { name := "fnExactCombineWait", fn := fun _ => fun
  | [d1, d2] => { results := [.lit (.bool true)], args := [d1, d2] }
  | _ => none }
def fnExactCombineWaitRow : OpenClaim := { program := "yteljmfdlegohbaa", sum := "a418a3cacbfa69a7105673bc7f15c6a34bb27bff4bc34226a6077c172f6fdf97", func := "loop.example/g03414/laws.FnExactCombineWait", spec := "fnExactCombineWait", unfollowed := true, recurses := true, apart := false }
def FnExactCombineWaitSaid : Prop := fnExactCombineWaitRow.holds Try.pinned (OpenSpec.ofChange fnExactCombineWaitSpec)

/-- ITS FALSE NEIGHBOUR: 'it returns false'. Refute it at one input. -/
def fnExactCombineWaitWrong : ChangeSpec := { name := "fnExactCombineWait", fn := fun _ => fun
  | [d1, d2] => { results := [.lit (.bool false)], args := [d1, d2] }
  | _ => none }
def FnExactCombineWaitWrongFalsely : Prop := fnExactCombineWaitRow.holds Try.pinned (OpenSpec.ofChange fnExactCombineWaitWrong)

/-- 'laws.FnExactCharOf': WHATEVER THE INPUT: true; the input reads as it did. -/
def fnExactCharOfSpec : ChangeSpec := { name := "fnExactCharOf", fn := fun _ => fun
  | [d1, d2] => { results := [.lit (.bool true)], args := [d1, d2] }
  | _ => none }
def fnExactCharOfRow : OpenClaim := { program := "yteljmfdlegohbaa", sum := "a418a3cacbfa69a7105673bc7f15c6a34bb27bff4bc34226a6077c172f6fdf97", func := "loop.example/g03414/laws.FnExactCharOf", spec := "fnExactCharOf", apart := false }
def FnExactCharOfSaid : Prop := fnExactCharOfRow.holds Try.pinned (OpenSpec.ofChange fnExactCharOfSpec)

/-- ITS FALSE NEIGHBOUR: 'it returns false'. Refute it at one input. -/
def fnExactCharOfWrong : ChangeSpec := { name := "fnExactCharOf", fn := fun _ => fun
  | [d1, d2] => { results := [.lit (.bool false)], args := [d1, d2] }
  | _ => none }
def FnExactCharOfWrongFalsely : Prop := fnExactCharOfRow.holds Try.pinned (OpenSpec.ofChange fnExactCharOfWrong)

/-- 'laws.FnExactKeyOf': WHATEVER THE INPUT: true; the input reads as it did. -/
def fnExactKeyOfSpec : ChangeSpec := { name := "fnExactKeyOf", fn := fun _ => fun
  | [d] => { results := [.lit (.bool true)], args := [d] }
  | _ => none }
def fnExactKeyOfRow : OpenClaim := { program := "yteljmfdlegohbaa", sum := "a418a3cacbfa69a7105673bc7f15c6a34bb27bff4bc34226a6077c172f6fdf97", func := "loop.example/g03414/laws.FnExactKeyOf", spec := "fnExactKeyOf", inPlace := ["internal/bytealg.IndexByteString"], apart := false }
def FnExactKeyOfSaid : Prop := fnExactKeyOfRow.holds Try.pinned (OpenSpec.ofChange fnExactKeyOfSpec)

/-- ITS FALSE NEIGHBOUR: 'it returns false'. Refute it at one input. -/
def fnExactKeyOfWrong : ChangeSpec := { name := "fnExactKeyOf", fn := fun _ => fun
  | [d] => { results := [.lit (.bool false)], args := [d] }
  | _ => none }
def FnExactKeyOfWrongFalsely : Prop := fnExactKeyOfRow.holds Try.pinned (OpenSpec.ofChange fnExactKeyOfWrong)

/-- 'laws.FnExactNewKeys': WHATEVER THE INPUT: true; the input reads as it did. -/
def fnExactNewKeysSpec : ChangeSpec := { name := "fnExactNewKeys", fn := fun _ => fun
  | [d1, d2] => { results := [.lit (.bool true)], args := [d1, d2] }
  | _ => none }
def fnExactNewKeysRow : OpenClaim := { program := "yteljmfdlegohbaa", sum := "a418a3cacbfa69a7105673bc7f15c6a34bb27bff4bc34226a6077c172f6fdf97", func := "loop.example/g03414/laws.FnExactNewKeys", spec := "fnExactNewKeys", apart := false }
def FnExactNewKeysSaid : Prop := fnExactNewKeysRow.holds Try.pinned (OpenSpec.ofChange fnExactNewKeysSpec)

/-- ITS FALSE NEIGHBOUR: 'it returns false'. Refute it at one input. -/
def fnExactNewKeysWrong : ChangeSpec := { name := "fnExactNewKeys", fn := fun _ => fun
  | [d1, d2] => { results := [.lit (.bool false)], args := [d1, d2] }
  | _ => none }
def FnExactNewKeysWrongFalsely : Prop := fnExactNewKeysRow.holds Try.pinned (OpenSpec.ofChange fnExactNewKeysWrong)

/-- 'laws.FnExactTypedText': WHATEVER THE INPUT: true; the input reads as it did. -/
def fnExactTypedTextSpec : ChangeSpec := { name := "fnExactTypedText", fn := fun _ => fun
  | [d1, d2] => { results := [.lit (.bool true)], args := [d1, d2] }
  | _ => none }
def fnExactTypedTextRow : OpenClaim := { program := "yteljmfdlegohbaa", sum := "a418a3cacbfa69a7105673bc7f15c6a34bb27bff4bc34226a6077c172f6fdf97", func := "loop.example/g03414/laws.FnExactTypedText", spec := "fnExactTypedText", inPlace := ["internal/abi.NoEscape"], apart := false }
def FnExactTypedTextSaid : Prop := fnExactTypedTextRow.holds Try.pinned (OpenSpec.ofChange fnExactTypedTextSpec)

/-- ITS FALSE NEIGHBOUR: 'it returns false'. Refute it at one input. -/
def fnExactTypedTextWrong : ChangeSpec := { name := "fnExactTypedText", fn := fun _ => fun
  | [d1, d2] => { results := [.lit (.bool false)], args := [d1, d2] }
  | _ => none }
def FnExactTypedTextWrongFalsely : Prop := fnExactTypedTextRow.holds Try.pinned (OpenSpec.ofChange fnExactTypedTextWrong)

/-- 'laws.FnExactTextReports': WHATEVER THE INPUT: true; the input reads as it did. -/
def fnExactTextReportsSpec : ChangeSpec := { name := "fnExactTextReports", fn := fun _ => fun
  | [d] => { results := [.lit (.bool true)], args := [d] }
  | _ => none }
def fnExactTextReportsRow : OpenClaim := { program := "yteljmfdlegohbaa", sum := "a418a3cacbfa69a7105673bc7f15c6a34bb27bff4bc34226a6077c172f6fdf97", func := "loop.example/g03414/laws.FnExactTextReports", spec := "fnExactTextReports", inPlace := ["internal/bytealg.IndexByteString"], apart := false }
def FnExactTextReportsSaid : Prop := fnExactTextReportsRow.holds Try.pinned (OpenSpec.ofChange fnExactTextReportsSpec)

/-- ITS FALSE NEIGHBOUR: 'it returns false'. Refute it at one input. -/
def fnExactTextReportsWrong : ChangeSpec := { name := "fnExactTextReports", fn := fun _ => fun
  | [d] => { results := [.lit (.bool false)], args := [d] }
  | _ => none }
def FnExactTextReportsWrongFalsely : Prop := fnExactTextReportsRow.holds Try.pinned (OpenSpec.ofChange fnExactTextReportsWrong)

/-- 'laws.FnExactTextMacro': WHATEVER THE INPUT: true; the input reads as it did. -/
def fnExactTextMacroSpec : ChangeSpec := { name := "fnExactTextMacro", fn := fun _ => fun
  | [d] => { results := [.lit (.bool true)], args := [d] }
  | _ => none }
def fnExactTextMacroRow : OpenClaim := { program := "yteljmfdlegohbaa", sum := "a418a3cacbfa69a7105673bc7f15c6a34bb27bff4bc34226a6077c172f6fdf97", func := "loop.example/g03414/laws.FnExactTextMacro", spec := "fnExactTextMacro", inPlace := ["internal/bytealg.IndexByteString"], apart := false }
def FnExactTextMacroSaid : Prop := fnExactTextMacroRow.holds Try.pinned (OpenSpec.ofChange fnExactTextMacroSpec)

/-- ITS FALSE NEIGHBOUR: 'it returns false'. Refute it at one input. -/
def fnExactTextMacroWrong : ChangeSpec := { name := "fnExactTextMacro", fn := fun _ => fun
  | [d] => { results := [.lit (.bool false)], args := [d] }
  | _ => none }
def FnExactTextMacroWrongFalsely : Prop := fnExactTextMacroRow.holds Try.pinned (OpenSpec.ofChange fnExactTextMacroWrong)

/- THE SECOND FORM. 'bulk': how many values and letters a reading holds, each counted each time it is reached (what is shared counts as often as it is met; a slice's spare places count too). A statement '..UptoSaid' is the law's where the arguments, and the package variables that the reading takes, are together of bulk at most 1048576: NARROWER than '..Said'. Prove '..Said' where nothing that the law and all that it calls make is longer than what came in: it says more and counts as full. Else prove '..UptoSaid'. A law counts once. -/
mutual
def uptoBulk {H : Type} : DataW H → Nat
  | .lit (.string bytes) => bytes.length + 1
  | .lit _ => 1
  | .nil => 1
  | .ptr d => uptoBulk d + 1
  | .slice elems spare => uptoBulkAll elems + uptoBulkAll spare + 1
  | .agg parts => uptoBulkAll parts + 1
  | .iface _ d => uptoBulk d + 1
  | .map entries => uptoBulkEntries entries + 1
  | .held _ => 1
def uptoBulkAll {H : Type} : List (DataW H) → Nat
  | [] => 0
  | d :: r => uptoBulk d + uptoBulkAll r
def uptoBulkEntries {H : Type} : List (Lit × DataW H) → Nat
  | [] => 0
  | x :: r => uptoBulkEntry x + uptoBulkEntries r
def uptoBulkEntry {H : Type} : Lit × DataW H → Nat
  | (.string bytes, d) => bytes.length + uptoBulk d + 1
  | (_, d) => uptoBulk d + 1
 end
def uptoSmall : (H : Type) → List (DataW H) → Bool := fun _ ds => decide (uptoBulkAll ds ≤ 1048576)
def OpenSpec.upto (s : _root_.Go.ChangeSpec) : _root_.Go.OpenSpec := { _root_.Go.OpenSpec.ofChange s with cond := some uptoSmall }

/-- 'laws.FnCombined', WHERE WHAT IT READS IS OF BULK AT MOST 1048576: true; the input reads as it did. -/
def fnCombinedUptoRow : OpenClaim := { program := "yteljmfdlegohbaa", sum := "a418a3cacbfa69a7105673bc7f15c6a34bb27bff4bc34226a6077c172f6fdf97", func := "loop.example/g03414/laws.FnCombined", spec := "fnCombined", unfollowed := true, recurses := true, apart := false, narrowed := true }
def FnCombinedUptoSaid : Prop := fnCombinedUptoRow.holds Try.pinned (OpenSpec.upto fnCombinedSpec)

/-- 'laws.FnComboEvents', WHERE WHAT IT READS IS OF BULK AT MOST 1048576: true; the input reads as it did. -/
def fnComboEventsUptoRow : OpenClaim := { program := "yteljmfdlegohbaa", sum := "a418a3cacbfa69a7105673bc7f15c6a34bb27bff4bc34226a6077c172f6fdf97", func := "loop.example/g03414/laws.FnComboEvents", spec := "fnComboEvents", unfollowed := true, recurses := true, apart := false, narrowed := true }
def FnComboEventsUptoSaid : Prop := fnComboEventsUptoRow.holds Try.pinned (OpenSpec.upto fnComboEventsSpec)

/-- 'laws.FnNoCombos', WHERE WHAT IT READS IS OF BULK AT MOST 1048576: true; the input reads as it did. -/
def fnNoCombosUptoRow : OpenClaim := { program := "yteljmfdlegohbaa", sum := "a418a3cacbfa69a7105673bc7f15c6a34bb27bff4bc34226a6077c172f6fdf97", func := "loop.example/g03414/laws.FnNoCombos", spec := "fnNoCombos", unfollowed := true, recurses := true, apart := false, narrowed := true }
def FnNoCombosUptoSaid : Prop := fnNoCombosUptoRow.holds Try.pinned (OpenSpec.upto fnNoCombosSpec)

/-- 'laws.FnCharacters', WHERE WHAT IT READS IS OF BULK AT MOST 1048576: true; the input reads as it did. -/
def fnCharactersUptoRow : OpenClaim := { program := "yteljmfdlegohbaa", sum := "a418a3cacbfa69a7105673bc7f15c6a34bb27bff4bc34226a6077c172f6fdf97", func := "loop.example/g03414/laws.FnCharacters", spec := "fnCharacters", inPlace := ["internal/bytealg.IndexByteString", "internal/abi.NoEscape"], unfollowed := true, recurses := true, apart := false, narrowed := true }
def FnCharactersUptoSaid : Prop := fnCharactersUptoRow.holds Try.pinned (OpenSpec.upto fnCharactersSpec)

/-- 'laws.FnComboPrompt', WHERE WHAT IT READS IS OF BULK AT MOST 1048576: true; the input reads as it did. -/
def fnComboPromptUptoRow : OpenClaim := { program := "yteljmfdlegohbaa", sum := "a418a3cacbfa69a7105673bc7f15c6a34bb27bff4bc34226a6077c172f6fdf97", func := "loop.example/g03414/laws.FnComboPrompt", spec := "fnComboPrompt", unfollowed := true, recurses := true, apart := false, narrowed := true }
def FnComboPromptUptoSaid : Prop := fnComboPromptUptoRow.holds Try.pinned (OpenSpec.upto fnComboPromptSpec)

/-- 'laws.FnExactSameSent', WHERE WHAT IT READS IS OF BULK AT MOST 1048576: true; the input reads as it did. -/
def fnExactSameSentUptoRow : OpenClaim := { program := "yteljmfdlegohbaa", sum := "a418a3cacbfa69a7105673bc7f15c6a34bb27bff4bc34226a6077c172f6fdf97", func := "loop.example/g03414/laws.FnExactSameSent", spec := "fnExactSameSent", unfollowed := true, recurses := true, apart := false, narrowed := true }
def FnExactSameSentUptoSaid : Prop := fnExactSameSentUptoRow.holds Try.pinned (OpenSpec.upto fnExactSameSentSpec)

/-- 'laws.FnExactCombineEvents', WHERE WHAT IT READS IS OF BULK AT MOST 1048576: true; the input reads as it did. -/
def fnExactCombineEventsUptoRow : OpenClaim := { program := "yteljmfdlegohbaa", sum := "a418a3cacbfa69a7105673bc7f15c6a34bb27bff4bc34226a6077c172f6fdf97", func := "loop.example/g03414/laws.FnExactCombineEvents", spec := "fnExactCombineEvents", unfollowed := true, recurses := true, apart := false, narrowed := true }
def FnExactCombineEventsUptoSaid : Prop := fnExactCombineEventsUptoRow.holds Try.pinned (OpenSpec.upto fnExactCombineEventsSpec)

/-- 'laws.FnExactCombineEvent', WHERE WHAT IT READS IS OF BULK AT MOST 1048576: true; the input reads as it did. -/
def fnExactCombineEventUptoRow : OpenClaim := { program := "yteljmfdlegohbaa", sum := "a418a3cacbfa69a7105673bc7f15c6a34bb27bff4bc34226a6077c172f6fdf97", func := "loop.example/g03414/laws.FnExactCombineEvent", spec := "fnExactCombineEvent", unfollowed := true, recurses := true, apart := false, narrowed := true }
def FnExactCombineEventUptoSaid : Prop := fnExactCombineEventUptoRow.holds Try.pinned (OpenSpec.upto fnExactCombineEventSpec)

/-- 'laws.FnExactCombineWait', WHERE WHAT IT READS IS OF BULK AT MOST 1048576: true; the input reads as it did. -/
def fnExactCombineWaitUptoRow : OpenClaim := { program := "yteljmfdlegohbaa", sum := "a418a3cacbfa69a7105673bc7f15c6a34bb27bff4bc34226a6077c172f6fdf97", func := "loop.example/g03414/laws.FnExactCombineWait", spec := "fnExactCombineWait", unfollowed := true, recurses := true, apart := false, narrowed := true }
def FnExactCombineWaitUptoSaid : Prop := fnExactCombineWaitUptoRow.holds Try.pinned (OpenSpec.upto fnExactCombineWaitSpec)

/-- 'laws.FnExactCharOf', WHERE WHAT IT READS IS OF BULK AT MOST 1048576: true; the input reads as it did. -/
def fnExactCharOfUptoRow : OpenClaim := { program := "yteljmfdlegohbaa", sum := "a418a3cacbfa69a7105673bc7f15c6a34bb27bff4bc34226a6077c172f6fdf97", func := "loop.example/g03414/laws.FnExactCharOf", spec := "fnExactCharOf", apart := false, narrowed := true }
def FnExactCharOfUptoSaid : Prop := fnExactCharOfUptoRow.holds Try.pinned (OpenSpec.upto fnExactCharOfSpec)

/-- 'laws.FnExactKeyOf', WHERE WHAT IT READS IS OF BULK AT MOST 1048576: true; the input reads as it did. -/
def fnExactKeyOfUptoRow : OpenClaim := { program := "yteljmfdlegohbaa", sum := "a418a3cacbfa69a7105673bc7f15c6a34bb27bff4bc34226a6077c172f6fdf97", func := "loop.example/g03414/laws.FnExactKeyOf", spec := "fnExactKeyOf", inPlace := ["internal/bytealg.IndexByteString"], apart := false, narrowed := true }
def FnExactKeyOfUptoSaid : Prop := fnExactKeyOfUptoRow.holds Try.pinned (OpenSpec.upto fnExactKeyOfSpec)

/-- 'laws.FnExactNewKeys', WHERE WHAT IT READS IS OF BULK AT MOST 1048576: true; the input reads as it did. -/
def fnExactNewKeysUptoRow : OpenClaim := { program := "yteljmfdlegohbaa", sum := "a418a3cacbfa69a7105673bc7f15c6a34bb27bff4bc34226a6077c172f6fdf97", func := "loop.example/g03414/laws.FnExactNewKeys", spec := "fnExactNewKeys", apart := false, narrowed := true }
def FnExactNewKeysUptoSaid : Prop := fnExactNewKeysUptoRow.holds Try.pinned (OpenSpec.upto fnExactNewKeysSpec)

/-- 'laws.FnExactTypedText', WHERE WHAT IT READS IS OF BULK AT MOST 1048576: true; the input reads as it did. -/
def fnExactTypedTextUptoRow : OpenClaim := { program := "yteljmfdlegohbaa", sum := "a418a3cacbfa69a7105673bc7f15c6a34bb27bff4bc34226a6077c172f6fdf97", func := "loop.example/g03414/laws.FnExactTypedText", spec := "fnExactTypedText", inPlace := ["internal/abi.NoEscape"], apart := false, narrowed := true }
def FnExactTypedTextUptoSaid : Prop := fnExactTypedTextUptoRow.holds Try.pinned (OpenSpec.upto fnExactTypedTextSpec)

/-- 'laws.FnExactTextReports', WHERE WHAT IT READS IS OF BULK AT MOST 1048576: true; the input reads as it did. -/
def fnExactTextReportsUptoRow : OpenClaim := { program := "yteljmfdlegohbaa", sum := "a418a3cacbfa69a7105673bc7f15c6a34bb27bff4bc34226a6077c172f6fdf97", func := "loop.example/g03414/laws.FnExactTextReports", spec := "fnExactTextReports", inPlace := ["internal/bytealg.IndexByteString"], apart := false, narrowed := true }
def FnExactTextReportsUptoSaid : Prop := fnExactTextReportsUptoRow.holds Try.pinned (OpenSpec.upto fnExactTextReportsSpec)

/-- 'laws.FnExactTextMacro', WHERE WHAT IT READS IS OF BULK AT MOST 1048576: true; the input reads as it did. -/
def fnExactTextMacroUptoRow : OpenClaim := { program := "yteljmfdlegohbaa", sum := "a418a3cacbfa69a7105673bc7f15c6a34bb27bff4bc34226a6077c172f6fdf97", func := "loop.example/g03414/laws.FnExactTextMacro", spec := "fnExactTextMacro", inPlace := ["internal/bytealg.IndexByteString"], apart := false, narrowed := true }
def FnExactTextMacroUptoSaid : Prop := fnExactTextMacroUptoRow.holds Try.pinned (OpenSpec.upto fnExactTextMacroSpec)

end Rows
end Go.Proofs.Yteljmfdlegohbaa
