/-
  No cell of these rows narrows 'for every input' (looked for: loops, veiled, ifaces, maps, wideKeys, modest, calm, conditions, laid).
  DERIVED. THE GIVEN ROWS OF THIS SEAT. 7 by the template 'for every input the law returns true; each argument reads behind the call as it read before'; 0 by the template 'total and deterministic' (their statements: YtjfckchoklepbaaTotals.lean).
  GIVEN WITH THE SEED: the statements are not yours to turn. If you find one false, say at which input.
  Laid BY PROGRAM, IN A SANDBOX (cutbox-rows.mjs): the forced cells as the released guide's own fill.sh prints them over the translation 38599b3988c42b00… (all of the seat's roots in one cut). By AI agents, Wed Nov 11 2026. No macro, syntax, notation, axiom, sorry.
-/
import Derived.Test.YtjfckchoklepbaaChecked
import GoSem.Claim
import GoSem.ClaimJoined
import GoSem.ClaimMapViews
import Derived.JoinedTies
import Derived.KernelRfl
namespace Go.Proofs.Ytjfckchoklepbaa
/- THE CELL 'sum', in the pinned program and in every row, IS THE sha256 OF THE DUMP (.gsa) THAT YtjfckchoklepbaaProg.lean LOADS. Nothing in Lean hashes anything: it is a label: what it is worth is what the hold of that sum in a sandbox is worth. -/
noncomputable def Try.pinned : Pinned := { name := "ytjfckchoklepbaa", sum := "38599b3988c42b00e32f272e4176f11071b30446b80042d79c8ffcf24b5d8267", checked := Try.checked }
namespace Rows
def none {H : Type} : Left H := { results := [], args := [] }

/-- 'laws.FnNothingStays': WHATEVER THE INPUT: true; the input reads as it did. -/
def fnNothingStaysSpec : ChangeSpec := { name := "fnNothingStays", fn := fun _ => fun
  | [d] => { results := [.lit (.bool true)], args := [d] }
  | _ => none }
def fnNothingStaysRow : OpenClaim := { program := "ytjfckchoklepbaa", sum := "38599b3988c42b00e32f272e4176f11071b30446b80042d79c8ffcf24b5d8267", func := "loop.example/g03414/laws.FnNothingStays", spec := "fnNothingStays", unfollowed := true, recurses := true, apart := false }
def FnNothingStaysSaid : Prop := fnNothingStaysRow.holds Try.pinned (OpenSpec.ofChange fnNothingStaysSpec)

/-- ITS FALSE NEIGHBOUR: 'it returns false'. Refute it at one input. -/
def fnNothingStaysWrong : ChangeSpec := { name := "fnNothingStays", fn := fun _ => fun
  | [d] => { results := [.lit (.bool false)], args := [d] }
  | _ => none }
def FnNothingStaysWrongFalsely : Prop := fnNothingStaysRow.holds Try.pinned (OpenSpec.ofChange fnNothingStaysWrong)

/-- 'laws.FnChoices': WHATEVER THE INPUT: true; the input reads as it did. -/
def fnChoicesSpec : ChangeSpec := { name := "fnChoices", fn := fun _ => fun
  | [d] => { results := [.lit (.bool true)], args := [d] }
  | _ => none }
def fnChoicesRow : OpenClaim := { program := "ytjfckchoklepbaa", sum := "38599b3988c42b00e32f272e4176f11071b30446b80042d79c8ffcf24b5d8267", func := "loop.example/g03414/laws.FnChoices", spec := "fnChoices", apart := false }
def FnChoicesSaid : Prop := fnChoicesRow.holds Try.pinned (OpenSpec.ofChange fnChoicesSpec)

/-- ITS FALSE NEIGHBOUR: 'it returns false'. Refute it at one input. -/
def fnChoicesWrong : ChangeSpec := { name := "fnChoices", fn := fun _ => fun
  | [d] => { results := [.lit (.bool false)], args := [d] }
  | _ => none }
def FnChoicesWrongFalsely : Prop := fnChoicesRow.holds Try.pinned (OpenSpec.ofChange fnChoicesWrong)

/-- 'laws.FnFlavors': WHATEVER THE INPUT: true; the input reads as it did. -/
def fnFlavorsSpec : ChangeSpec := { name := "fnFlavors", fn := fun _ => fun
  | [d] => { results := [.lit (.bool true)], args := [d] }
  | _ => none }
def fnFlavorsRow : OpenClaim := { program := "ytjfckchoklepbaa", sum := "38599b3988c42b00e32f272e4176f11071b30446b80042d79c8ffcf24b5d8267", func := "loop.example/g03414/laws.FnFlavors", spec := "fnFlavors", apart := false }
def FnFlavorsSaid : Prop := fnFlavorsRow.holds Try.pinned (OpenSpec.ofChange fnFlavorsSpec)

/-- ITS FALSE NEIGHBOUR: 'it returns false'. Refute it at one input. -/
def fnFlavorsWrong : ChangeSpec := { name := "fnFlavors", fn := fun _ => fun
  | [d] => { results := [.lit (.bool false)], args := [d] }
  | _ => none }
def FnFlavorsWrongFalsely : Prop := fnFlavorsRow.holds Try.pinned (OpenSpec.ofChange fnFlavorsWrong)

/-- 'laws.FnExactIsTiming': WHATEVER THE INPUT: true; the input reads as it did. -/
def fnExactIsTimingSpec : ChangeSpec := { name := "fnExactIsTiming", fn := fun _ => fun
  | [d] => { results := [.lit (.bool true)], args := [d] }
  | _ => none }
def fnExactIsTimingRow : OpenClaim := { program := "ytjfckchoklepbaa", sum := "38599b3988c42b00e32f272e4176f11071b30446b80042d79c8ffcf24b5d8267", func := "loop.example/g03414/laws.FnExactIsTiming", spec := "fnExactIsTiming", apart := false }
def FnExactIsTimingSaid : Prop := fnExactIsTimingRow.holds Try.pinned (OpenSpec.ofChange fnExactIsTimingSpec)

/-- ITS FALSE NEIGHBOUR: 'it returns false'. Refute it at one input. -/
def fnExactIsTimingWrong : ChangeSpec := { name := "fnExactIsTiming", fn := fun _ => fun
  | [d] => { results := [.lit (.bool false)], args := [d] }
  | _ => none }
def FnExactIsTimingWrongFalsely : Prop := fnExactIsTimingRow.holds Try.pinned (OpenSpec.ofChange fnExactIsTimingWrong)

/-- 'laws.FnExactIsDecider': WHATEVER THE INPUT: true; the input reads as it did. -/
def fnExactIsDeciderSpec : ChangeSpec := { name := "fnExactIsDecider", fn := fun _ => fun
  | [d] => { results := [.lit (.bool true)], args := [d] }
  | _ => none }
def fnExactIsDeciderRow : OpenClaim := { program := "ytjfckchoklepbaa", sum := "38599b3988c42b00e32f272e4176f11071b30446b80042d79c8ffcf24b5d8267", func := "loop.example/g03414/laws.FnExactIsDecider", spec := "fnExactIsDecider", unfollowed := true, recurses := true, apart := false }
def FnExactIsDeciderSaid : Prop := fnExactIsDeciderRow.holds Try.pinned (OpenSpec.ofChange fnExactIsDeciderSpec)

/-- ITS FALSE NEIGHBOUR: 'it returns false'. Refute it at one input. -/
def fnExactIsDeciderWrong : ChangeSpec := { name := "fnExactIsDecider", fn := fun _ => fun
  | [d] => { results := [.lit (.bool false)], args := [d] }
  | _ => none }
def FnExactIsDeciderWrongFalsely : Prop := fnExactIsDeciderRow.holds Try.pinned (OpenSpec.ofChange fnExactIsDeciderWrong)

/-- 'laws.FnExactChoiceOf': WHATEVER THE INPUT: true; the input reads as it did. -/
def fnExactChoiceOfSpec : ChangeSpec := { name := "fnExactChoiceOf", fn := fun _ => fun
  | [d1, d2, d3, d4, d5] => { results := [.lit (.bool true)], args := [d1, d2, d3, d4, d5] }
  | _ => none }
def fnExactChoiceOfRow : OpenClaim := { program := "ytjfckchoklepbaa", sum := "38599b3988c42b00e32f272e4176f11071b30446b80042d79c8ffcf24b5d8267", func := "loop.example/g03414/laws.FnExactChoiceOf", spec := "fnExactChoiceOf", apart := false }
def FnExactChoiceOfSaid : Prop := fnExactChoiceOfRow.holds Try.pinned (OpenSpec.ofChange fnExactChoiceOfSpec)

/-- ITS FALSE NEIGHBOUR: 'it returns false'. Refute it at one input. -/
def fnExactChoiceOfWrong : ChangeSpec := { name := "fnExactChoiceOf", fn := fun _ => fun
  | [d1, d2, d3, d4, d5] => { results := [.lit (.bool false)], args := [d1, d2, d3, d4, d5] }
  | _ => none }
def FnExactChoiceOfWrongFalsely : Prop := fnExactChoiceOfRow.holds Try.pinned (OpenSpec.ofChange fnExactChoiceOfWrong)

/-- 'laws.FnExactSameSent': WHATEVER THE INPUT: true; the input reads as it did. -/
def fnExactSameSentSpec : ChangeSpec := { name := "fnExactSameSent", fn := fun _ => fun
  | [d1, d2] => { results := [.lit (.bool true)], args := [d1, d2] }
  | _ => none }
def fnExactSameSentRow : OpenClaim := { program := "ytjfckchoklepbaa", sum := "38599b3988c42b00e32f272e4176f11071b30446b80042d79c8ffcf24b5d8267", func := "loop.example/g03414/laws.FnExactSameSent", spec := "fnExactSameSent", unfollowed := true, recurses := true, apart := false }
def FnExactSameSentSaid : Prop := fnExactSameSentRow.holds Try.pinned (OpenSpec.ofChange fnExactSameSentSpec)

/-- ITS FALSE NEIGHBOUR: 'it returns false'. Refute it at one input. -/
def fnExactSameSentWrong : ChangeSpec := { name := "fnExactSameSent", fn := fun _ => fun
  | [d1, d2] => { results := [.lit (.bool false)], args := [d1, d2] }
  | _ => none }
def FnExactSameSentWrongFalsely : Prop := fnExactSameSentRow.holds Try.pinned (OpenSpec.ofChange fnExactSameSentWrong)

/- THE SECOND FORM. 'bulk': how many values and letters a reading holds, each counted each time it is reached (what is shared counts as often as it is met; a slice's spare places count too). A statement '..UptoSaid' is the law's where the arguments, and the package variables that the reading takes, are together of bulk at most 1048576: NARROWER than '..Said'. Prove '..Said' where nothing that the law and all that it calls make is longer than what came in: it says more and counts as full. Else prove '..UptoSaid'. A law counts once. -/
mutual
def uptoBulk {H : Type} : DataW H → Nat
  | .lit (.string bytes) => bytes.length + 1
  | .lit _ => 1
  | .nil => 1
  | .ptr d => uptoBulk d + 1
  | .slice elems spare => uptoBulkAll elems + uptoBulkAll spare + 1
  | .agg parts => uptoBulkAll parts + 1
  | .iface _ d => uptoBulk d + 1
  | .map entries => uptoBulkEntries entries + 1
  | .held _ => 1
def uptoBulkAll {H : Type} : List (DataW H) → Nat
  | [] => 0
  | d :: r => uptoBulk d + uptoBulkAll r
def uptoBulkEntries {H : Type} : List (Lit × DataW H) → Nat
  | [] => 0
  | x :: r => uptoBulkEntry x + uptoBulkEntries r
def uptoBulkEntry {H : Type} : Lit × DataW H → Nat
  | (.string bytes, d) => bytes.length + uptoBulk d + 1
  | (_, d) => uptoBulk d + 1
 end
def uptoSmall : (H : Type) → List (DataW H) → Bool := fun _ ds => decide (uptoBulkAll ds ≤ 1048576)
def OpenSpec.upto (s : _root_.Go.ChangeSpec) : _root_.Go.OpenSpec := { _root_.Go.OpenSpec.ofChange s with cond := some uptoSmall }

/-- 'laws.FnNothingStays', WHERE WHAT IT READS IS OF BULK AT MOST 1048576: true; the input reads as it did. -/
def fnNothingStaysUptoRow : OpenClaim := { program := "ytjfckchoklepbaa", sum := "38599b3988c42b00e32f272e4176f11071b30446b80042d79c8ffcf24b5d8267", func := "loop.example/g03414/laws.FnNothingStays", spec := "fnNothingStays", unfollowed := true, recurses := true, apart := false, narrowed := true }
def FnNothingStaysUptoSaid : Prop := fnNothingStaysUptoRow.holds Try.pinned (OpenSpec.upto fnNothingStaysSpec)

/-- 'laws.FnChoices', WHERE WHAT IT READS IS OF BULK AT MOST 1048576: true; the input reads as it did. -/
def fnChoicesUptoRow : OpenClaim := { program := "ytjfckchoklepbaa", sum := "38599b3988c42b00e32f272e4176f11071b30446b80042d79c8ffcf24b5d8267", func := "loop.example/g03414/laws.FnChoices", spec := "fnChoices", apart := false, narrowed := true }
def FnChoicesUptoSaid : Prop := fnChoicesUptoRow.holds Try.pinned (OpenSpec.upto fnChoicesSpec)

/-- 'laws.FnFlavors', WHERE WHAT IT READS IS OF BULK AT MOST 1048576: true; the input reads as it did. -/
def fnFlavorsUptoRow : OpenClaim := { program := "ytjfckchoklepbaa", sum := "38599b3988c42b00e32f272e4176f11071b30446b80042d79c8ffcf24b5d8267", func := "loop.example/g03414/laws.FnFlavors", spec := "fnFlavors", apart := false, narrowed := true }
def FnFlavorsUptoSaid : Prop := fnFlavorsUptoRow.holds Try.pinned (OpenSpec.upto fnFlavorsSpec)

/-- 'laws.FnExactIsTiming', WHERE WHAT IT READS IS OF BULK AT MOST 1048576: true; the input reads as it did. -/
def fnExactIsTimingUptoRow : OpenClaim := { program := "ytjfckchoklepbaa", sum := "38599b3988c42b00e32f272e4176f11071b30446b80042d79c8ffcf24b5d8267", func := "loop.example/g03414/laws.FnExactIsTiming", spec := "fnExactIsTiming", apart := false, narrowed := true }
def FnExactIsTimingUptoSaid : Prop := fnExactIsTimingUptoRow.holds Try.pinned (OpenSpec.upto fnExactIsTimingSpec)

/-- 'laws.FnExactIsDecider', WHERE WHAT IT READS IS OF BULK AT MOST 1048576: true; the input reads as it did. -/
def fnExactIsDeciderUptoRow : OpenClaim := { program := "ytjfckchoklepbaa", sum := "38599b3988c42b00e32f272e4176f11071b30446b80042d79c8ffcf24b5d8267", func := "loop.example/g03414/laws.FnExactIsDecider", spec := "fnExactIsDecider", unfollowed := true, recurses := true, apart := false, narrowed := true }
def FnExactIsDeciderUptoSaid : Prop := fnExactIsDeciderUptoRow.holds Try.pinned (OpenSpec.upto fnExactIsDeciderSpec)

/-- 'laws.FnExactChoiceOf', WHERE WHAT IT READS IS OF BULK AT MOST 1048576: true; the input reads as it did. -/
def fnExactChoiceOfUptoRow : OpenClaim := { program := "ytjfckchoklepbaa", sum := "38599b3988c42b00e32f272e4176f11071b30446b80042d79c8ffcf24b5d8267", func := "loop.example/g03414/laws.FnExactChoiceOf", spec := "fnExactChoiceOf", apart := false, narrowed := true }
def FnExactChoiceOfUptoSaid : Prop := fnExactChoiceOfUptoRow.holds Try.pinned (OpenSpec.upto fnExactChoiceOfSpec)

/-- 'laws.FnExactSameSent', WHERE WHAT IT READS IS OF BULK AT MOST 1048576: true; the input reads as it did. -/
def fnExactSameSentUptoRow : OpenClaim := { program := "ytjfckchoklepbaa", sum := "38599b3988c42b00e32f272e4176f11071b30446b80042d79c8ffcf24b5d8267", func := "loop.example/g03414/laws.FnExactSameSent", spec := "fnExactSameSent", unfollowed := true, recurses := true, apart := false, narrowed := true }
def FnExactSameSentUptoSaid : Prop := fnExactSameSentUptoRow.holds Try.pinned (OpenSpec.upto fnExactSameSentSpec)

end Rows
end Go.Proofs.Ytjfckchoklepbaa
