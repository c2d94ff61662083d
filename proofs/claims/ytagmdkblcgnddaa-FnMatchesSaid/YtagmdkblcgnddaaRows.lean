/-
  No cell of these rows narrows 'for every input' (looked for: loops, veiled, ifaces, maps, wideKeys, modest, calm, conditions, laid).
  DERIVED. THE GIVEN ROWS OF THIS SEAT. 13 by the template 'for every input the law returns true; each argument reads behind the call as it read before'; 0 by the template 'total and deterministic' (their statements: YtagmdkblcgnddaaTotals.lean).
  GIVEN WITH THE SEED: the statements are not yours to turn. If you find one false, say at which input.
  Laid BY PROGRAM, IN A SANDBOX (cutbox-rows.mjs): the forced cells as the released guide's own fill.sh prints them over the translation c2e7b97a3971b2d0… (all of the seat's roots in one cut). By AI agents, Wed Nov 11 2026. No macro, syntax, notation, axiom, sorry.
-/
import Derived.Test.YtagmdkblcgnddaaChecked
import GoSem.Claim
import GoSem.ClaimJoined
import GoSem.ClaimMapViews
import Derived.JoinedTies
import Derived.KernelRfl
namespace Go.Proofs.Ytagmdkblcgnddaa
/- THE CELL 'sum', in the pinned program and in every row, IS THE sha256 OF THE DUMP (.gsa) THAT YtagmdkblcgnddaaProg.lean LOADS. Nothing in Lean hashes anything: it is a label: what it is worth is what the hold of that sum in a sandbox is worth. -/
noncomputable def Try.pinned : Pinned := { name := "ytagmdkblcgnddaa", sum := "c2e7b97a3971b2d0aa6ab4e815f85fe1246ec93acd40e8643fda94e899eb1c92", checked := Try.checked }
namespace Rows
def none {H : Type} : Left H := { results := [], args := [] }

/-- 'laws.FnCombined': WHATEVER THE INPUT: true; the input reads as it did. -/
def fnCombinedSpec : ChangeSpec := { name := "fnCombined", fn := fun _ => fun
  | [d] => { results := [.lit (.bool true)], args := [d] }
  | _ => none }
def fnCombinedRow : OpenClaim := { program := "ytagmdkblcgnddaa", sum := "c2e7b97a3971b2d0aa6ab4e815f85fe1246ec93acd40e8643fda94e899eb1c92", func := "loop.example/g03414/laws.FnCombined", spec := "fnCombined", unfollowed := true, recurses := true, apart := false }
def FnCombinedSaid : Prop := fnCombinedRow.holds Try.pinned (OpenSpec.ofChange fnCombinedSpec)

/-- ITS FALSE NEIGHBOUR: 'it returns false'. Refute it at one input. -/
def fnCombinedWrong : ChangeSpec := { name := "fnCombined", fn := fun _ => fun
  | [d] => { results := [.lit (.bool false)], args := [d] }
  | _ => none }
def FnCombinedWrongFalsely : Prop := fnCombinedRow.holds Try.pinned (OpenSpec.ofChange fnCombinedWrong)

/-- 'laws.FnComboEvents': WHATEVER THE INPUT: true; the input reads as it did. -/
def fnComboEventsSpec : ChangeSpec := { name := "fnComboEvents", fn := fun _ => fun
  | [d] => { results := [.lit (.bool true)], args := [d] }
  | _ => none }
def fnComboEventsRow : OpenClaim := { program := "ytagmdkblcgnddaa", sum := "c2e7b97a3971b2d0aa6ab4e815f85fe1246ec93acd40e8643fda94e899eb1c92", func := "loop.example/g03414/laws.FnComboEvents", spec := "fnComboEvents", unfollowed := true, recurses := true, apart := false }
def FnComboEventsSaid : Prop := fnComboEventsRow.holds Try.pinned (OpenSpec.ofChange fnComboEventsSpec)

/-- ITS FALSE NEIGHBOUR: 'it returns false'. Refute it at one input. -/
def fnComboEventsWrong : ChangeSpec := { name := "fnComboEvents", fn := fun _ => fun
  | [d] => { results := [.lit (.bool false)], args := [d] }
  | _ => none }
def FnComboEventsWrongFalsely : Prop := fnComboEventsRow.holds Try.pinned (OpenSpec.ofChange fnComboEventsWrong)

/-- 'laws.FnNoCombos': WHATEVER THE INPUT: true; the input reads as it did. -/
def fnNoCombosSpec : ChangeSpec := { name := "fnNoCombos", fn := fun _ => fun
  | [d] => { results := [.lit (.bool true)], args := [d] }
  | _ => none }
def fnNoCombosRow : OpenClaim := { program := "ytagmdkblcgnddaa", sum := "c2e7b97a3971b2d0aa6ab4e815f85fe1246ec93acd40e8643fda94e899eb1c92", func := "loop.example/g03414/laws.FnNoCombos", spec := "fnNoCombos", unfollowed := true, recurses := true, apart := false }
def FnNoCombosSaid : Prop := fnNoCombosRow.holds Try.pinned (OpenSpec.ofChange fnNoCombosSpec)

/-- ITS FALSE NEIGHBOUR: 'it returns false'. Refute it at one input. -/
def fnNoCombosWrong : ChangeSpec := { name := "fnNoCombos", fn := fun _ => fun
  | [d] => { results := [.lit (.bool false)], args := [d] }
  | _ => none }
def FnNoCombosWrongFalsely : Prop := fnNoCombosRow.holds Try.pinned (OpenSpec.ofChange fnNoCombosWrong)

/-- 'laws.FnMatches': WHATEVER THE INPUT: true; the input reads as it did. -/
def fnMatchesSpec : ChangeSpec := { name := "fnMatches", fn := fun _ => fun
  | [d] => { results := [.lit (.bool true)], args := [d] }
  | _ => none }
def fnMatchesRow : OpenClaim := { program := "ytagmdkblcgnddaa", sum := "c2e7b97a3971b2d0aa6ab4e815f85fe1246ec93acd40e8643fda94e899eb1c92", func := "loop.example/g03414/laws.FnMatches", spec := "fnMatches", unfollowed := true, recurses := true, apart := false }
def FnMatchesSaid : Prop := fnMatchesRow.holds Try.pinned (OpenSpec.ofChange fnMatchesSpec)

/-- ITS FALSE NEIGHBOUR: 'it returns false'. Refute it at one input. -/
def fnMatchesWrong : ChangeSpec := { name := "fnMatches", fn := fun _ => fun
  | [d] => { results := [.lit (.bool false)], args := [d] }
  | _ => none }
def FnMatchesWrongFalsely : Prop := fnMatchesRow.holds Try.pinned (OpenSpec.ofChange fnMatchesWrong)

/-- 'laws.FnComboPrompt': WHATEVER THE INPUT: true; the input reads as it did. -/
def fnComboPromptSpec : ChangeSpec := { name := "fnComboPrompt", fn := fun _ => fun
  | [d] => { results := [.lit (.bool true)], args := [d] }
  | _ => none }
def fnComboPromptRow : OpenClaim := { program := "ytagmdkblcgnddaa", sum := "c2e7b97a3971b2d0aa6ab4e815f85fe1246ec93acd40e8643fda94e899eb1c92", func := "loop.example/g03414/laws.FnComboPrompt", spec := "fnComboPrompt", unfollowed := true, recurses := true, apart := false }
def FnComboPromptSaid : Prop := fnComboPromptRow.holds Try.pinned (OpenSpec.ofChange fnComboPromptSpec)

/-- ITS FALSE NEIGHBOUR: 'it returns false'. Refute it at one input. -/
def fnComboPromptWrong : ChangeSpec := { name := "fnComboPrompt", fn := fun _ => fun
  | [d] => { results := [.lit (.bool false)], args := [d] }
  | _ => none }
def FnComboPromptWrongFalsely : Prop := fnComboPromptRow.holds Try.pinned (OpenSpec.ofChange fnComboPromptWrong)

/-- 'laws.FnExactSameSent': WHATEVER THE INPUT: true; the input reads as it did. -/
def fnExactSameSentSpec : ChangeSpec := { name := "fnExactSameSent", fn := fun _ => fun
  | [d1, d2] => { results := [.lit (.bool true)], args := [d1, d2] }
  | _ => none }
def fnExactSameSentRow : OpenClaim := { program := "ytagmdkblcgnddaa", sum := "c2e7b97a3971b2d0aa6ab4e815f85fe1246ec93acd40e8643fda94e899eb1c92", func := "loop.example/g03414/laws.FnExactSameSent", spec := "fnExactSameSent", unfollowed := true, recurses := true, apart := false }
def FnExactSameSentSaid : Prop := fnExactSameSentRow.holds Try.pinned (OpenSpec.ofChange fnExactSameSentSpec)

/-- ITS FALSE NEIGHBOUR: 'it returns false'. Refute it at one input. -/
def fnExactSameSentWrong : ChangeSpec := { name := "fnExactSameSent", fn := fun _ => fun
  | [d1, d2] => { results := [.lit (.bool false)], args := [d1, d2] }
  | _ => none }
def FnExactSameSentWrongFalsely : Prop := fnExactSameSentRow.holds Try.pinned (OpenSpec.ofChange fnExactSameSentWrong)

/-- 'laws.FnExactIsCombos': WHATEVER THE INPUT: true; the input reads as it did. -/
def fnExactIsCombosSpec : ChangeSpec := { name := "fnExactIsCombos", fn := fun _ => fun
  | [d] => { results := [.lit (.bool true)], args := [d] }
  | _ => none }
def fnExactIsCombosRow : OpenClaim := { program := "ytagmdkblcgnddaa", sum := "c2e7b97a3971b2d0aa6ab4e815f85fe1246ec93acd40e8643fda94e899eb1c92", func := "loop.example/g03414/laws.FnExactIsCombos", spec := "fnExactIsCombos", unfollowed := true, recurses := true, apart := false }
def FnExactIsCombosSaid : Prop := fnExactIsCombosRow.holds Try.pinned (OpenSpec.ofChange fnExactIsCombosSpec)

/-- ITS FALSE NEIGHBOUR: 'it returns false'. Refute it at one input. -/
def fnExactIsCombosWrong : ChangeSpec := { name := "fnExactIsCombos", fn := fun _ => fun
  | [d] => { results := [.lit (.bool false)], args := [d] }
  | _ => none }
def FnExactIsCombosWrongFalsely : Prop := fnExactIsCombosRow.holds Try.pinned (OpenSpec.ofChange fnExactIsCombosWrong)

/-- 'laws.FnExactIsCombiner': WHATEVER THE INPUT: true; the input reads as it did. -/
def fnExactIsCombinerSpec : ChangeSpec := { name := "fnExactIsCombiner", fn := fun _ => fun
  | [d] => { results := [.lit (.bool true)], args := [d] }
  | _ => none }
def fnExactIsCombinerRow : OpenClaim := { program := "ytagmdkblcgnddaa", sum := "c2e7b97a3971b2d0aa6ab4e815f85fe1246ec93acd40e8643fda94e899eb1c92", func := "loop.example/g03414/laws.FnExactIsCombiner", spec := "fnExactIsCombiner", unfollowed := true, recurses := true, apart := false }
def FnExactIsCombinerSaid : Prop := fnExactIsCombinerRow.holds Try.pinned (OpenSpec.ofChange fnExactIsCombinerSpec)

/-- ITS FALSE NEIGHBOUR: 'it returns false'. Refute it at one input. -/
def fnExactIsCombinerWrong : ChangeSpec := { name := "fnExactIsCombiner", fn := fun _ => fun
  | [d] => { results := [.lit (.bool false)], args := [d] }
  | _ => none }
def FnExactIsCombinerWrongFalsely : Prop := fnExactIsCombinerRow.holds Try.pinned (OpenSpec.ofChange fnExactIsCombinerWrong)

/-- 'laws.FnExactNewCombiner': WHATEVER THE INPUT: true; the input reads as it did. -/
def fnExactNewCombinerSpec : ChangeSpec := { name := "fnExactNewCombiner", fn := fun _ => fun
  | [d1, d2] => { results := [.lit (.bool true)], args := [d1, d2] }
  | _ => none }
def fnExactNewCombinerRow : OpenClaim := { program := "ytagmdkblcgnddaa", sum := "c2e7b97a3971b2d0aa6ab4e815f85fe1246ec93acd40e8643fda94e899eb1c92", func := "loop.example/g03414/laws.FnExactNewCombiner", spec := "fnExactNewCombiner", unfollowed := true, recurses := true, apart := false }
def FnExactNewCombinerSaid : Prop := fnExactNewCombinerRow.holds Try.pinned (OpenSpec.ofChange fnExactNewCombinerSpec)

/-- ITS FALSE NEIGHBOUR: 'it returns false'. Refute it at one input. -/
def fnExactNewCombinerWrong : ChangeSpec := { name := "fnExactNewCombiner", fn := fun _ => fun
  | [d1, d2] => { results := [.lit (.bool false)], args := [d1, d2] }
  | _ => none }
def FnExactNewCombinerWrongFalsely : Prop := fnExactNewCombinerRow.holds Try.pinned (OpenSpec.ofChange fnExactNewCombinerWrong)

/-- 'laws.FnExactMatchCombo': WHATEVER THE INPUT: true; the input reads as it did. -/
def fnExactMatchComboSpec : ChangeSpec := { name := "fnExactMatchCombo", fn := fun _ => fun
  | [d1, d2, d3, d4] => { results := [.lit (.bool true)], args := [d1, d2, d3, d4] }
  | _ => none }
def fnExactMatchComboRow : OpenClaim := { program := "ytagmdkblcgnddaa", sum := "c2e7b97a3971b2d0aa6ab4e815f85fe1246ec93acd40e8643fda94e899eb1c92", func := "loop.example/g03414/laws.FnExactMatchCombo", spec := "fnExactMatchCombo", unfollowed := true, recurses := true, apart := false }
def FnExactMatchComboSaid : Prop := fnExactMatchComboRow.holds Try.pinned (OpenSpec.ofChange fnExactMatchComboSpec)

/-- ITS FALSE NEIGHBOUR: 'it returns false'. Refute it at one input. -/
def fnExactMatchComboWrong : ChangeSpec := { name := "fnExactMatchCombo", fn := fun _ => fun
  | [d1, d2, d3, d4] => { results := [.lit (.bool false)], args := [d1, d2, d3, d4] }
  | _ => none }
def FnExactMatchComboWrongFalsely : Prop := fnExactMatchComboRow.holds Try.pinned (OpenSpec.ofChange fnExactMatchComboWrong)

/-- 'laws.FnExactCombineEvents': WHATEVER THE INPUT: true; the input reads as it did. -/
def fnExactCombineEventsSpec : ChangeSpec := { name := "fnExactCombineEvents", fn := fun _ => fun
  | [d1, d2, d3] => { results := [.lit (.bool true)], args := [d1, d2, d3] }
  | _ => none }
def fnExactCombineEventsRow : OpenClaim := { program := "ytagmdkblcgnddaa", sum := "c2e7b97a3971b2d0aa6ab4e815f85fe1246ec93acd40e8643fda94e899eb1c92", func := "loop.example/g03414/laws.FnExactCombineEvents", spec := "fnExactCombineEvents", unfollowed := true, recurses := true, apart := false }
def FnExactCombineEventsSaid : Prop := fnExactCombineEventsRow.holds Try.pinned (OpenSpec.ofChange fnExactCombineEventsSpec)

/-- ITS FALSE NEIGHBOUR: 'it returns false'. Refute it at one input. -/
def fnExactCombineEventsWrong : ChangeSpec := { name := "fnExactCombineEvents", fn := fun _ => fun
  | [d1, d2, d3] => { results := [.lit (.bool false)], args := [d1, d2, d3] }
  | _ => none }
def FnExactCombineEventsWrongFalsely : Prop := fnExactCombineEventsRow.holds Try.pinned (OpenSpec.ofChange fnExactCombineEventsWrong)

/-- 'laws.FnExactCombineEvent': WHATEVER THE INPUT: true; the input reads as it did. -/
def fnExactCombineEventSpec : ChangeSpec := { name := "fnExactCombineEvent", fn := fun _ => fun
  | [d1, d2] => { results := [.lit (.bool true)], args := [d1, d2] }
  | _ => none }
def fnExactCombineEventRow : OpenClaim := { program := "ytagmdkblcgnddaa", sum := "c2e7b97a3971b2d0aa6ab4e815f85fe1246ec93acd40e8643fda94e899eb1c92", func := "loop.example/g03414/laws.FnExactCombineEvent", spec := "fnExactCombineEvent", unfollowed := true, recurses := true, apart := false }
def FnExactCombineEventSaid : Prop := fnExactCombineEventRow.holds Try.pinned (OpenSpec.ofChange fnExactCombineEventSpec)

/-- ITS FALSE NEIGHBOUR: 'it returns false'. Refute it at one input. -/
def fnExactCombineEventWrong : ChangeSpec := { name := "fnExactCombineEvent", fn := fun _ => fun
  | [d1, d2] => { results := [.lit (.bool false)], args := [d1, d2] }
  | _ => none }
def FnExactCombineEventWrongFalsely : Prop := fnExactCombineEventRow.holds Try.pinned (OpenSpec.ofChange fnExactCombineEventWrong)

/-- 'laws.FnExactCombineWait': WHATEVER THE INPUT: true; the input reads as it did. -/
def fnExactCombineWaitSpec : ChangeSpec := { name := "fnExactCombineWait", fn := fun _ => fun
  | [d1, d2] => { results := [.lit (.bool true)], args := [d1, d2] }
  | _ => none }
def fnExactCombineWaitRow : OpenClaim := { program := "ytagmdkblcgnddaa", sum := "c2e7b97a3971b2d0aa6ab4e815f85fe1246ec93acd40e8643fda94e899eb1c92", func := "loop.example/g03414/laws.FnExactCombineWait", spec := "fnExactCombineWait", unfollowed := true, recurses := true, apart := false }
def FnExactCombineWaitSaid : Prop := fnExactCombineWaitRow.holds Try.pinned (OpenSpec.ofChange fnExactCombineWaitSpec)

/-- ITS FALSE NEIGHBOUR: 'it returns false'. Refute it at one input. -/
def fnExactCombineWaitWrong : ChangeSpec := { name := "fnExactCombineWait", fn := fun _ => fun
  | [d1, d2] => { results := [.lit (.bool false)], args := [d1, d2] }
  | _ => none }
def FnExactCombineWaitWrongFalsely : Prop := fnExactCombineWaitRow.holds Try.pinned (OpenSpec.ofChange fnExactCombineWaitWrong)

/- THE SECOND FORM. 'bulk': how many values and letters a reading holds, each counted each time it is reached (what is shared counts as often as it is met; a slice's spare places count too). A statement '..UptoSaid' is the law's where the arguments, and the package variables that the reading takes, are together of bulk at most 1048576: NARROWER than '..Said'. Prove '..Said' where nothing that the law and all that it calls make is longer than what came in: it says more and counts as full. Else prove '..UptoSaid'. A law counts once. -/
mutual
def uptoBulk {H : Type} : DataW H → Nat
  | .lit (.string bytes) => bytes.length + 1
  | .lit _ => 1
  | .nil => 1
  | .ptr d => uptoBulk d + 1
  | .slice elems spare => uptoBulkAll elems + uptoBulkAll spare + 1
  | .agg parts => uptoBulkAll parts + 1
  | .iface _ d => uptoBulk d + 1
  | .map entries => uptoBulkEntries entries + 1
  | .held _ => 1
def uptoBulkAll {H : Type} : List (DataW H) → Nat
  | [] => 0
  | d :: r => uptoBulk d + uptoBulkAll r
def uptoBulkEntries {H : Type} : List (Lit × DataW H) → Nat
  | [] => 0
  | x :: r => uptoBulkEntry x + uptoBulkEntries r
def uptoBulkEntry {H : Type} : Lit × DataW H → Nat
  | (.string bytes, d) => bytes.length + uptoBulk d + 1
  | (_, d) => uptoBulk d + 1
 end
def uptoSmall : (H : Type) → List (DataW H) → Bool := fun _ ds => decide (uptoBulkAll ds ≤ 1048576)
def OpenSpec.upto (s : _root_.Go.ChangeSpec) : _root_.Go.OpenSpec := { _root_.Go.OpenSpec.ofChange s with cond := some uptoSmall }

/-- 'laws.FnCombined', WHERE WHAT IT READS IS OF BULK AT MOST 1048576: true; the input reads as it did. -/
def fnCombinedUptoRow : OpenClaim := { program := "ytagmdkblcgnddaa", sum := "c2e7b97a3971b2d0aa6ab4e815f85fe1246ec93acd40e8643fda94e899eb1c92", func := "loop.example/g03414/laws.FnCombined", spec := "fnCombined", unfollowed := true, recurses := true, apart := false, narrowed := true }
def FnCombinedUptoSaid : Prop := fnCombinedUptoRow.holds Try.pinned (OpenSpec.upto fnCombinedSpec)

/-- 'laws.FnComboEvents', WHERE WHAT IT READS IS OF BULK AT MOST 1048576: true; the input reads as it did. -/
def fnComboEventsUptoRow : OpenClaim := { program := "ytagmdkblcgnddaa", sum := "c2e7b97a3971b2d0aa6ab4e815f85fe1246ec93acd40e8643fda94e899eb1c92", func := "loop.example/g03414/laws.FnComboEvents", spec := "fnComboEvents", unfollowed := true, recurses := true, apart := false, narrowed := true }
def FnComboEventsUptoSaid : Prop := fnComboEventsUptoRow.holds Try.pinned (OpenSpec.upto fnComboEventsSpec)

/-- 'laws.FnNoCombos', WHERE WHAT IT READS IS OF BULK AT MOST 1048576: true; the input reads as it did. -/
def fnNoCombosUptoRow : OpenClaim := { program := "ytagmdkblcgnddaa", sum := "c2e7b97a3971b2d0aa6ab4e815f85fe1246ec93acd40e8643fda94e899eb1c92", func := "loop.example/g03414/laws.FnNoCombos", spec := "fnNoCombos", unfollowed := true, recurses := true, apart := false, narrowed := true }
def FnNoCombosUptoSaid : Prop := fnNoCombosUptoRow.holds Try.pinned (OpenSpec.upto fnNoCombosSpec)

/-- 'laws.FnMatches', WHERE WHAT IT READS IS OF BULK AT MOST 1048576: true; the input reads as it did. -/
def fnMatchesUptoRow : OpenClaim := { program := "ytagmdkblcgnddaa", sum := "c2e7b97a3971b2d0aa6ab4e815f85fe1246ec93acd40e8643fda94e899eb1c92", func := "loop.example/g03414/laws.FnMatches", spec := "fnMatches", unfollowed := true, recurses := true, apart := false, narrowed := true }
def FnMatchesUptoSaid : Prop := fnMatchesUptoRow.holds Try.pinned (OpenSpec.upto fnMatchesSpec)

/-- 'laws.FnComboPrompt', WHERE WHAT IT READS IS OF BULK AT MOST 1048576: true; the input reads as it did. -/
def fnComboPromptUptoRow : OpenClaim := { program := "ytagmdkblcgnddaa", sum := "c2e7b97a3971b2d0aa6ab4e815f85fe1246ec93acd40e8643fda94e899eb1c92", func := "loop.example/g03414/laws.FnComboPrompt", spec := "fnComboPrompt", unfollowed := true, recurses := true, apart := false, narrowed := true }
def FnComboPromptUptoSaid : Prop := fnComboPromptUptoRow.holds Try.pinned (OpenSpec.upto fnComboPromptSpec)

/-- 'laws.FnExactSameSent', WHERE WHAT IT READS IS OF BULK AT MOST 1048576: true; the input reads as it did. -/
def fnExactSameSentUptoRow : OpenClaim := { program := "ytagmdkblcgnddaa", sum := "c2e7b97a3971b2d0aa6ab4e815f85fe1246ec93acd40e8643fda94e899eb1c92", func := "loop.example/g03414/laws.FnExactSameSent", spec := "fnExactSameSent", unfollowed := true, recurses := true, apart := false, narrowed := true }
def FnExactSameSentUptoSaid : Prop := fnExactSameSentUptoRow.holds Try.pinned (OpenSpec.upto fnExactSameSentSpec)

/-- 'laws.FnExactIsCombos', WHERE WHAT IT READS IS OF BULK AT MOST 1048576: true; the input reads as it did. -/
def fnExactIsCombosUptoRow : OpenClaim := { program := "ytagmdkblcgnddaa", sum := "c2e7b97a3971b2d0aa6ab4e815f85fe1246ec93acd40e8643fda94e899eb1c92", func := "loop.example/g03414/laws.FnExactIsCombos", spec := "fnExactIsCombos", unfollowed := true, recurses := true, apart := false, narrowed := true }
def FnExactIsCombosUptoSaid : Prop := fnExactIsCombosUptoRow.holds Try.pinned (OpenSpec.upto fnExactIsCombosSpec)

/-- 'laws.FnExactIsCombiner', WHERE WHAT IT READS IS OF BULK AT MOST 1048576: true; the input reads as it did. -/
def fnExactIsCombinerUptoRow : OpenClaim := { program := "ytagmdkblcgnddaa", sum := "c2e7b97a3971b2d0aa6ab4e815f85fe1246ec93acd40e8643fda94e899eb1c92", func := "loop.example/g03414/laws.FnExactIsCombiner", spec := "fnExactIsCombiner", unfollowed := true, recurses := true, apart := false, narrowed := true }
def FnExactIsCombinerUptoSaid : Prop := fnExactIsCombinerUptoRow.holds Try.pinned (OpenSpec.upto fnExactIsCombinerSpec)

/-- 'laws.FnExactNewCombiner', WHERE WHAT IT READS IS OF BULK AT MOST 1048576: true; the input reads as it did. -/
def fnExactNewCombinerUptoRow : OpenClaim := { program := "ytagmdkblcgnddaa", sum := "c2e7b97a3971b2d0aa6ab4e815f85fe1246ec93acd40e8643fda94e899eb1c92", func := "loop.example/g03414/laws.FnExactNewCombiner", spec := "fnExactNewCombiner", unfollowed := true, recurses := true, apart := false, narrowed := true }
def FnExactNewCombinerUptoSaid : Prop := fnExactNewCombinerUptoRow.holds Try.pinned (OpenSpec.upto fnExactNewCombinerSpec)

/-- 'laws.FnExactMatchCombo', WHERE WHAT IT READS IS OF BULK AT MOST 1048576: true; the input reads as it did. -/
def fnExactMatchComboUptoRow : OpenClaim := { program := "ytagmdkblcgnddaa", sum := "c2e7b97a3971b2d0aa6ab4e815f85fe1246ec93acd40e8643fda94e899eb1c92", func := "loop.example/g03414/laws.FnExactMatchCombo", spec := "fnExactMatchCombo", unfollowed := true, recurses := true, apart := false, narrowed := true }
def FnExactMatchComboUptoSaid : Prop := fnExactMatchComboUptoRow.holds Try.pinned (OpenSpec.upto fnExactMatchComboSpec)

/-- 'laws.FnExactCombineEvents', WHERE WHAT IT READS IS OF BULK AT MOST 1048576: true; the input reads as it did. -/
def fnExactCombineEventsUptoRow : OpenClaim := { program := "ytagmdkblcgnddaa", sum := "c2e7b97a3971b2d0aa6ab4e815f85fe1246ec93acd40e8643fda94e899eb1c92", func := "loop.example/g03414/laws.FnExactCombineEvents", spec := "fnExactCombineEvents", unfollowed := true, recurses := true, apart := false, narrowed := true }
def FnExactCombineEventsUptoSaid : Prop := fnExactCombineEventsUptoRow.holds Try.pinned (OpenSpec.upto fnExactCombineEventsSpec)

/-- 'laws.FnExactCombineEvent', WHERE WHAT IT READS IS OF BULK AT MOST 1048576: true; the input reads as it did. -/
def fnExactCombineEventUptoRow : OpenClaim := { program := "ytagmdkblcgnddaa", sum := "c2e7b97a3971b2d0aa6ab4e815f85fe1246ec93acd40e8643fda94e899eb1c92", func := "loop.example/g03414/laws.FnExactCombineEvent", spec := "fnExactCombineEvent", unfollowed := true, recurses := true, apart := false, narrowed := true }
def FnExactCombineEventUptoSaid : Prop := fnExactCombineEventUptoRow.holds Try.pinned (OpenSpec.upto fnExactCombineEventSpec)

/-- 'laws.FnExactCombineWait', WHERE WHAT IT READS IS OF BULK AT MOST 1048576: true; the input reads as it did. -/
def fnExactCombineWaitUptoRow : OpenClaim := { program := "ytagmdkblcgnddaa", sum := "c2e7b97a3971b2d0aa6ab4e815f85fe1246ec93acd40e8643fda94e899eb1c92", func := "loop.example/g03414/laws.FnExactCombineWait", spec := "fnExactCombineWait", unfollowed := true, recurses := true, apart := false, narrowed := true }
def FnExactCombineWaitUptoSaid : Prop := fnExactCombineWaitUptoRow.holds Try.pinned (OpenSpec.upto fnExactCombineWaitSpec)

end Rows
end Go.Proofs.Ytagmdkblcgnddaa
