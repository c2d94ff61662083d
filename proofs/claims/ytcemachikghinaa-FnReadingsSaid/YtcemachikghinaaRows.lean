/-
  No cell of these rows narrows 'for every input' (looked for: loops, veiled, ifaces, maps, wideKeys, modest, calm, conditions, laid).
  DERIVED. THE GIVEN ROWS OF THIS SEAT. 11 by the template 'for every input the law returns true; each argument reads behind the call as it read before'; 0 by the template 'total and deterministic' (their statements: YtcemachikghinaaTotals.lean).
  GIVEN WITH THE SEED: the statements are not yours to turn. If you find one false, say at which input.
  Laid BY PROGRAM, IN A SANDBOX (cutbox-rows.mjs): the forced cells as the released guide's own fill.sh prints them over the translation 50f6ef46421245b9… (all of the seat's roots in one cut). By AI agents, Wed Nov 11 2026. No macro, syntax, notation, axiom, sorry.
-/
import Derived.Test.YtcemachikghinaaChecked
import GoSem.Claim
import GoSem.ClaimJoined
import GoSem.ClaimMapViews
import Derived.JoinedTies
import Derived.KernelRfl
namespace Go.Proofs.Ytcemachikghinaa
/- THE CELL 'sum', in the pinned program and in every row, IS THE sha256 OF THE DUMP (.gsa) THAT YtcemachikghinaaProg.lean LOADS. Nothing in Lean hashes anything: it is a label: what it is worth is what the hold of that sum in a sandbox is worth. -/
noncomputable def Try.pinned : Pinned := { name := "ytcemachikghinaa", sum := "50f6ef46421245b9f463952a8ddd1ed047f602b21c8520bbf3ae3c085ed16b95", checked := Try.checked }
namespace Rows
def none {H : Type} : Left H := { results := [], args := [] }

/-- 'laws.FnReadings': WHATEVER THE INPUT: true; the input reads as it did. -/
def fnReadingsSpec : ChangeSpec := { name := "fnReadings", fn := fun _ => fun
  | [d] => { results := [.lit (.bool true)], args := [d] }
  | _ => none }
def fnReadingsRow : OpenClaim := { program := "ytcemachikghinaa", sum := "50f6ef46421245b9f463952a8ddd1ed047f602b21c8520bbf3ae3c085ed16b95", func := "loop.example/g03414/laws.FnReadings", spec := "fnReadings", apart := false }
def FnReadingsSaid : Prop := fnReadingsRow.holds Try.pinned (OpenSpec.ofChange fnReadingsSpec)

/-- ITS FALSE NEIGHBOUR: 'it returns false'. Refute it at one input. -/
def fnReadingsWrong : ChangeSpec := { name := "fnReadings", fn := fun _ => fun
  | [d] => { results := [.lit (.bool false)], args := [d] }
  | _ => none }
def FnReadingsWrongFalsely : Prop := fnReadingsRow.holds Try.pinned (OpenSpec.ofChange fnReadingsWrong)

/-- 'laws.FnAccepted': WHATEVER THE INPUT: true; the input reads as it did. -/
def fnAcceptedSpec : ChangeSpec := { name := "fnAccepted", fn := fun _ => fun
  | [d] => { results := [.lit (.bool true)], args := [d] }
  | _ => none }
def fnAcceptedRow : OpenClaim := { program := "ytcemachikghinaa", sum := "50f6ef46421245b9f463952a8ddd1ed047f602b21c8520bbf3ae3c085ed16b95", func := "loop.example/g03414/laws.FnAccepted", spec := "fnAccepted", apart := false }
def FnAcceptedSaid : Prop := fnAcceptedRow.holds Try.pinned (OpenSpec.ofChange fnAcceptedSpec)

/-- ITS FALSE NEIGHBOUR: 'it returns false'. Refute it at one input. -/
def fnAcceptedWrong : ChangeSpec := { name := "fnAccepted", fn := fun _ => fun
  | [d] => { results := [.lit (.bool false)], args := [d] }
  | _ => none }
def FnAcceptedWrongFalsely : Prop := fnAcceptedRow.holds Try.pinned (OpenSpec.ofChange fnAcceptedWrong)

/-- 'laws.FnExactIsMatrix': WHATEVER THE INPUT: true; the input reads as it did. -/
def fnExactIsMatrixSpec : ChangeSpec := { name := "fnExactIsMatrix", fn := fun _ => fun
  | [d] => { results := [.lit (.bool true)], args := [d] }
  | _ => none }
def fnExactIsMatrixRow : OpenClaim := { program := "ytcemachikghinaa", sum := "50f6ef46421245b9f463952a8ddd1ed047f602b21c8520bbf3ae3c085ed16b95", func := "loop.example/g03414/laws.FnExactIsMatrix", spec := "fnExactIsMatrix", apart := false }
def FnExactIsMatrixSaid : Prop := fnExactIsMatrixRow.holds Try.pinned (OpenSpec.ofChange fnExactIsMatrixSpec)

/-- ITS FALSE NEIGHBOUR: 'it returns false'. Refute it at one input. -/
def fnExactIsMatrixWrong : ChangeSpec := { name := "fnExactIsMatrix", fn := fun _ => fun
  | [d] => { results := [.lit (.bool false)], args := [d] }
  | _ => none }
def FnExactIsMatrixWrongFalsely : Prop := fnExactIsMatrixRow.holds Try.pinned (OpenSpec.ofChange fnExactIsMatrixWrong)

/-- 'laws.FnExactKeyCount': WHATEVER THE INPUT: true; the input reads as it did. -/
def fnExactKeyCountSpec : ChangeSpec := { name := "fnExactKeyCount", fn := fun _ => fun
  | [d] => { results := [.lit (.bool true)], args := [d] }
  | _ => none }
def fnExactKeyCountRow : OpenClaim := { program := "ytcemachikghinaa", sum := "50f6ef46421245b9f463952a8ddd1ed047f602b21c8520bbf3ae3c085ed16b95", func := "loop.example/g03414/laws.FnExactKeyCount", spec := "fnExactKeyCount", apart := false }
def FnExactKeyCountSaid : Prop := fnExactKeyCountRow.holds Try.pinned (OpenSpec.ofChange fnExactKeyCountSpec)

/-- ITS FALSE NEIGHBOUR: 'it returns false'. Refute it at one input. -/
def fnExactKeyCountWrong : ChangeSpec := { name := "fnExactKeyCount", fn := fun _ => fun
  | [d] => { results := [.lit (.bool false)], args := [d] }
  | _ => none }
def FnExactKeyCountWrongFalsely : Prop := fnExactKeyCountRow.holds Try.pinned (OpenSpec.ofChange fnExactKeyCountWrong)

/-- 'laws.FnExactIsMask': WHATEVER THE INPUT: true; the input reads as it did. -/
def fnExactIsMaskSpec : ChangeSpec := { name := "fnExactIsMask", fn := fun _ => fun
  | [d1, d2] => { results := [.lit (.bool true)], args := [d1, d2] }
  | _ => none }
def fnExactIsMaskRow : OpenClaim := { program := "ytcemachikghinaa", sum := "50f6ef46421245b9f463952a8ddd1ed047f602b21c8520bbf3ae3c085ed16b95", func := "loop.example/g03414/laws.FnExactIsMask", spec := "fnExactIsMask", apart := false }
def FnExactIsMaskSaid : Prop := fnExactIsMaskRow.holds Try.pinned (OpenSpec.ofChange fnExactIsMaskSpec)

/-- ITS FALSE NEIGHBOUR: 'it returns false'. Refute it at one input. -/
def fnExactIsMaskWrong : ChangeSpec := { name := "fnExactIsMask", fn := fun _ => fun
  | [d1, d2] => { results := [.lit (.bool false)], args := [d1, d2] }
  | _ => none }
def FnExactIsMaskWrongFalsely : Prop := fnExactIsMaskRow.holds Try.pinned (OpenSpec.ofChange fnExactIsMaskWrong)

/-- 'laws.FnExactReadMatrix': WHATEVER THE INPUT: true; the input reads as it did. -/
def fnExactReadMatrixSpec : ChangeSpec := { name := "fnExactReadMatrix", fn := fun _ => fun
  | [d1, d2] => { results := [.lit (.bool true)], args := [d1, d2] }
  | _ => none }
def fnExactReadMatrixRow : OpenClaim := { program := "ytcemachikghinaa", sum := "50f6ef46421245b9f463952a8ddd1ed047f602b21c8520bbf3ae3c085ed16b95", func := "loop.example/g03414/laws.FnExactReadMatrix", spec := "fnExactReadMatrix", apart := false }
def FnExactReadMatrixSaid : Prop := fnExactReadMatrixRow.holds Try.pinned (OpenSpec.ofChange fnExactReadMatrixSpec)

/-- ITS FALSE NEIGHBOUR: 'it returns false'. Refute it at one input. -/
def fnExactReadMatrixWrong : ChangeSpec := { name := "fnExactReadMatrix", fn := fun _ => fun
  | [d1, d2] => { results := [.lit (.bool false)], args := [d1, d2] }
  | _ => none }
def FnExactReadMatrixWrongFalsely : Prop := fnExactReadMatrixRow.holds Try.pinned (OpenSpec.ofChange fnExactReadMatrixWrong)

/-- 'laws.FnExactGhostsOf': WHATEVER THE INPUT: true; the input reads as it did. -/
def fnExactGhostsOfSpec : ChangeSpec := { name := "fnExactGhostsOf", fn := fun _ => fun
  | [d1, d2] => { results := [.lit (.bool true)], args := [d1, d2] }
  | _ => none }
def fnExactGhostsOfRow : OpenClaim := { program := "ytcemachikghinaa", sum := "50f6ef46421245b9f463952a8ddd1ed047f602b21c8520bbf3ae3c085ed16b95", func := "loop.example/g03414/laws.FnExactGhostsOf", spec := "fnExactGhostsOf", apart := false }
def FnExactGhostsOfSaid : Prop := fnExactGhostsOfRow.holds Try.pinned (OpenSpec.ofChange fnExactGhostsOfSpec)

/-- ITS FALSE NEIGHBOUR: 'it returns false'. Refute it at one input. -/
def fnExactGhostsOfWrong : ChangeSpec := { name := "fnExactGhostsOf", fn := fun _ => fun
  | [d1, d2] => { results := [.lit (.bool false)], args := [d1, d2] }
  | _ => none }
def FnExactGhostsOfWrongFalsely : Prop := fnExactGhostsOfRow.holds Try.pinned (OpenSpec.ofChange fnExactGhostsOfWrong)

/-- 'laws.FnExactIsReading': WHATEVER THE INPUT: true; the input reads as it did. -/
def fnExactIsReadingSpec : ChangeSpec := { name := "fnExactIsReading", fn := fun _ => fun
  | [d1, d2] => { results := [.lit (.bool true)], args := [d1, d2] }
  | _ => none }
def fnExactIsReadingRow : OpenClaim := { program := "ytcemachikghinaa", sum := "50f6ef46421245b9f463952a8ddd1ed047f602b21c8520bbf3ae3c085ed16b95", func := "loop.example/g03414/laws.FnExactIsReading", spec := "fnExactIsReading", apart := false }
def FnExactIsReadingSaid : Prop := fnExactIsReadingRow.holds Try.pinned (OpenSpec.ofChange fnExactIsReadingSpec)

/-- ITS FALSE NEIGHBOUR: 'it returns false'. Refute it at one input. -/
def fnExactIsReadingWrong : ChangeSpec := { name := "fnExactIsReading", fn := fun _ => fun
  | [d1, d2] => { results := [.lit (.bool false)], args := [d1, d2] }
  | _ => none }
def FnExactIsReadingWrongFalsely : Prop := fnExactIsReadingRow.holds Try.pinned (OpenSpec.ofChange fnExactIsReadingWrong)

/-- 'laws.FnExactAlternative': WHATEVER THE INPUT: true; the input reads as it did. -/
def fnExactAlternativeSpec : ChangeSpec := { name := "fnExactAlternative", fn := fun _ => fun
  | [d1, d2, d3] => { results := [.lit (.bool true)], args := [d1, d2, d3] }
  | _ => none }
def fnExactAlternativeRow : OpenClaim := { program := "ytcemachikghinaa", sum := "50f6ef46421245b9f463952a8ddd1ed047f602b21c8520bbf3ae3c085ed16b95", func := "loop.example/g03414/laws.FnExactAlternative", spec := "fnExactAlternative", apart := false }
def FnExactAlternativeSaid : Prop := fnExactAlternativeRow.holds Try.pinned (OpenSpec.ofChange fnExactAlternativeSpec)

/-- ITS FALSE NEIGHBOUR: 'it returns false'. Refute it at one input. -/
def fnExactAlternativeWrong : ChangeSpec := { name := "fnExactAlternative", fn := fun _ => fun
  | [d1, d2, d3] => { results := [.lit (.bool false)], args := [d1, d2, d3] }
  | _ => none }
def FnExactAlternativeWrongFalsely : Prop := fnExactAlternativeRow.holds Try.pinned (OpenSpec.ofChange fnExactAlternativeWrong)

/-- 'laws.FnExactClearKeys': WHATEVER THE INPUT: true; the input reads as it did. -/
def fnExactClearKeysSpec : ChangeSpec := { name := "fnExactClearKeys", fn := fun _ => fun
  | [d1, d2] => { results := [.lit (.bool true)], args := [d1, d2] }
  | _ => none }
def fnExactClearKeysRow : OpenClaim := { program := "ytcemachikghinaa", sum := "50f6ef46421245b9f463952a8ddd1ed047f602b21c8520bbf3ae3c085ed16b95", func := "loop.example/g03414/laws.FnExactClearKeys", spec := "fnExactClearKeys", apart := false }
def FnExactClearKeysSaid : Prop := fnExactClearKeysRow.holds Try.pinned (OpenSpec.ofChange fnExactClearKeysSpec)

/-- ITS FALSE NEIGHBOUR: 'it returns false'. Refute it at one input. -/
def fnExactClearKeysWrong : ChangeSpec := { name := "fnExactClearKeys", fn := fun _ => fun
  | [d1, d2] => { results := [.lit (.bool false)], args := [d1, d2] }
  | _ => none }
def FnExactClearKeysWrongFalsely : Prop := fnExactClearKeysRow.holds Try.pinned (OpenSpec.ofChange fnExactClearKeysWrong)

/-- 'laws.FnExactAcceptReading': WHATEVER THE INPUT: true; the input reads as it did. -/
def fnExactAcceptReadingSpec : ChangeSpec := { name := "fnExactAcceptReading", fn := fun _ => fun
  | [d1, d2, d3] => { results := [.lit (.bool true)], args := [d1, d2, d3] }
  | _ => none }
def fnExactAcceptReadingRow : OpenClaim := { program := "ytcemachikghinaa", sum := "50f6ef46421245b9f463952a8ddd1ed047f602b21c8520bbf3ae3c085ed16b95", func := "loop.example/g03414/laws.FnExactAcceptReading", spec := "fnExactAcceptReading", apart := false }
def FnExactAcceptReadingSaid : Prop := fnExactAcceptReadingRow.holds Try.pinned (OpenSpec.ofChange fnExactAcceptReadingSpec)

/-- ITS FALSE NEIGHBOUR: 'it returns false'. Refute it at one input. -/
def fnExactAcceptReadingWrong : ChangeSpec := { name := "fnExactAcceptReading", fn := fun _ => fun
  | [d1, d2, d3] => { results := [.lit (.bool false)], args := [d1, d2, d3] }
  | _ => none }
def FnExactAcceptReadingWrongFalsely : Prop := fnExactAcceptReadingRow.holds Try.pinned (OpenSpec.ofChange fnExactAcceptReadingWrong)

/- THE SECOND FORM. 'bulk': how many values and letters a reading holds, each counted each time it is reached (what is shared counts as often as it is met; a slice's spare places count too). A statement '..UptoSaid' is the law's where the arguments, and the package variables that the reading takes, are together of bulk at most 1048576: NARROWER than '..Said'. Prove '..Said' where nothing that the law and all that it calls make is longer than what came in: it says more and counts as full. Else prove '..UptoSaid'. A law counts once. -/
mutual
def uptoBulk {H : Type} : DataW H → Nat
  | .lit (.string bytes) => bytes.length + 1
  | .lit _ => 1
  | .nil => 1
  | .ptr d => uptoBulk d + 1
  | .slice elems spare => uptoBulkAll elems + uptoBulkAll spare + 1
  | .agg parts => uptoBulkAll parts + 1
  | .iface _ d => uptoBulk d + 1
  | .map entries => uptoBulkEntries entries + 1
  | .held _ => 1
def uptoBulkAll {H : Type} : List (DataW H) → Nat
  | [] => 0
  | d :: r => uptoBulk d + uptoBulkAll r
def uptoBulkEntries {H : Type} : List (Lit × DataW H) → Nat
  | [] => 0
  | x :: r => uptoBulkEntry x + uptoBulkEntries r
def uptoBulkEntry {H : Type} : Lit × DataW H → Nat
  | (.string bytes, d) => bytes.length + uptoBulk d + 1
  | (_, d) => uptoBulk d + 1
 end
def uptoSmall : (H : Type) → List (DataW H) → Bool := fun _ ds => decide (uptoBulkAll ds ≤ 1048576)
def OpenSpec.upto (s : _root_.Go.ChangeSpec) : _root_.Go.OpenSpec := { _root_.Go.OpenSpec.ofChange s with cond := some uptoSmall }

/-- 'laws.FnReadings', WHERE WHAT IT READS IS OF BULK AT MOST 1048576: true; the input reads as it did. -/
def fnReadingsUptoRow : OpenClaim := { program := "ytcemachikghinaa", sum := "50f6ef46421245b9f463952a8ddd1ed047f602b21c8520bbf3ae3c085ed16b95", func := "loop.example/g03414/laws.FnReadings", spec := "fnReadings", apart := false, narrowed := true }
def FnReadingsUptoSaid : Prop := fnReadingsUptoRow.holds Try.pinned (OpenSpec.upto fnReadingsSpec)

/-- 'laws.FnAccepted', WHERE WHAT IT READS IS OF BULK AT MOST 1048576: true; the input reads as it did. -/
def fnAcceptedUptoRow : OpenClaim := { program := "ytcemachikghinaa", sum := "50f6ef46421245b9f463952a8ddd1ed047f602b21c8520bbf3ae3c085ed16b95", func := "loop.example/g03414/laws.FnAccepted", spec := "fnAccepted", apart := false, narrowed := true }
def FnAcceptedUptoSaid : Prop := fnAcceptedUptoRow.holds Try.pinned (OpenSpec.upto fnAcceptedSpec)

/-- 'laws.FnExactIsMatrix', WHERE WHAT IT READS IS OF BULK AT MOST 1048576: true; the input reads as it did. -/
def fnExactIsMatrixUptoRow : OpenClaim := { program := "ytcemachikghinaa", sum := "50f6ef46421245b9f463952a8ddd1ed047f602b21c8520bbf3ae3c085ed16b95", func := "loop.example/g03414/laws.FnExactIsMatrix", spec := "fnExactIsMatrix", apart := false, narrowed := true }
def FnExactIsMatrixUptoSaid : Prop := fnExactIsMatrixUptoRow.holds Try.pinned (OpenSpec.upto fnExactIsMatrixSpec)

/-- 'laws.FnExactKeyCount', WHERE WHAT IT READS IS OF BULK AT MOST 1048576: true; the input reads as it did. -/
def fnExactKeyCountUptoRow : OpenClaim := { program := "ytcemachikghinaa", sum := "50f6ef46421245b9f463952a8ddd1ed047f602b21c8520bbf3ae3c085ed16b95", func := "loop.example/g03414/laws.FnExactKeyCount", spec := "fnExactKeyCount", apart := false, narrowed := true }
def FnExactKeyCountUptoSaid : Prop := fnExactKeyCountUptoRow.holds Try.pinned (OpenSpec.upto fnExactKeyCountSpec)

/-- 'laws.FnExactIsMask', WHERE WHAT IT READS IS OF BULK AT MOST 1048576: true; the input reads as it did. -/
def fnExactIsMaskUptoRow : OpenClaim := { program := "ytcemachikghinaa", sum := "50f6ef46421245b9f463952a8ddd1ed047f602b21c8520bbf3ae3c085ed16b95", func := "loop.example/g03414/laws.FnExactIsMask", spec := "fnExactIsMask", apart := false, narrowed := true }
def FnExactIsMaskUptoSaid : Prop := fnExactIsMaskUptoRow.holds Try.pinned (OpenSpec.upto fnExactIsMaskSpec)

/-- 'laws.FnExactReadMatrix', WHERE WHAT IT READS IS OF BULK AT MOST 1048576: true; the input reads as it did. -/
def fnExactReadMatrixUptoRow : OpenClaim := { program := "ytcemachikghinaa", sum := "50f6ef46421245b9f463952a8ddd1ed047f602b21c8520bbf3ae3c085ed16b95", func := "loop.example/g03414/laws.FnExactReadMatrix", spec := "fnExactReadMatrix", apart := false, narrowed := true }
def FnExactReadMatrixUptoSaid : Prop := fnExactReadMatrixUptoRow.holds Try.pinned (OpenSpec.upto fnExactReadMatrixSpec)

/-- 'laws.FnExactGhostsOf', WHERE WHAT IT READS IS OF BULK AT MOST 1048576: true; the input reads as it did. -/
def fnExactGhostsOfUptoRow : OpenClaim := { program := "ytcemachikghinaa", sum := "50f6ef46421245b9f463952a8ddd1ed047f602b21c8520bbf3ae3c085ed16b95", func := "loop.example/g03414/laws.FnExactGhostsOf", spec := "fnExactGhostsOf", apart := false, narrowed := true }
def FnExactGhostsOfUptoSaid : Prop := fnExactGhostsOfUptoRow.holds Try.pinned (OpenSpec.upto fnExactGhostsOfSpec)

/-- 'laws.FnExactIsReading', WHERE WHAT IT READS IS OF BULK AT MOST 1048576: true; the input reads as it did. -/
def fnExactIsReadingUptoRow : OpenClaim := { program := "ytcemachikghinaa", sum := "50f6ef46421245b9f463952a8ddd1ed047f602b21c8520bbf3ae3c085ed16b95", func := "loop.example/g03414/laws.FnExactIsReading", spec := "fnExactIsReading", apart := false, narrowed := true }
def FnExactIsReadingUptoSaid : Prop := fnExactIsReadingUptoRow.holds Try.pinned (OpenSpec.upto fnExactIsReadingSpec)

/-- 'laws.FnExactAlternative', WHERE WHAT IT READS IS OF BULK AT MOST 1048576: true; the input reads as it did. -/
def fnExactAlternativeUptoRow : OpenClaim := { program := "ytcemachikghinaa", sum := "50f6ef46421245b9f463952a8ddd1ed047f602b21c8520bbf3ae3c085ed16b95", func := "loop.example/g03414/laws.FnExactAlternative", spec := "fnExactAlternative", apart := false, narrowed := true }
def FnExactAlternativeUptoSaid : Prop := fnExactAlternativeUptoRow.holds Try.pinned (OpenSpec.upto fnExactAlternativeSpec)

/-- 'laws.FnExactClearKeys', WHERE WHAT IT READS IS OF BULK AT MOST 1048576: true; the input reads as it did. -/
def fnExactClearKeysUptoRow : OpenClaim := { program := "ytcemachikghinaa", sum := "50f6ef46421245b9f463952a8ddd1ed047f602b21c8520bbf3ae3c085ed16b95", func := "loop.example/g03414/laws.FnExactClearKeys", spec := "fnExactClearKeys", apart := false, narrowed := true }
def FnExactClearKeysUptoSaid : Prop := fnExactClearKeysUptoRow.holds Try.pinned (OpenSpec.upto fnExactClearKeysSpec)

/-- 'laws.FnExactAcceptReading', WHERE WHAT IT READS IS OF BULK AT MOST 1048576: true; the input reads as it did. -/
def fnExactAcceptReadingUptoRow : OpenClaim := { program := "ytcemachikghinaa", sum := "50f6ef46421245b9f463952a8ddd1ed047f602b21c8520bbf3ae3c085ed16b95", func := "loop.example/g03414/laws.FnExactAcceptReading", spec := "fnExactAcceptReading", apart := false, narrowed := true }
def FnExactAcceptReadingUptoSaid : Prop := fnExactAcceptReadingUptoRow.holds Try.pinned (OpenSpec.upto fnExactAcceptReadingSpec)

end Rows
end Go.Proofs.Ytcemachikghinaa
