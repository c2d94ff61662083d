/-
  No cell of these rows narrows 'for every input' (looked for: loops, veiled, ifaces, maps, wideKeys, modest, calm, conditions, laid).
  DERIVED. THE GIVEN ROWS OF THIS SEAT. 5 by the template 'for every input the law returns true; each argument reads behind the call as it read before'; 0 by the template 'total and deterministic' (their statements: YtbpmddjhmoflgaaTotals.lean).
  GIVEN WITH THE SEED: the statements are not yours to turn. If you find one false, say at which input.
  Laid BY PROGRAM, IN A SANDBOX (cutbox-rows.mjs): the forced cells as the released guide's own fill.sh prints them over the translation 01a57c77a203d8c7… (all of the seat's roots in one cut). By AI agents, Wed Nov 11 2026. No macro, syntax, notation, axiom, sorry.
-/
import Derived.Test.YtbpmddjhmoflgaaChecked
import GoSem.Claim
import GoSem.ClaimJoined
import GoSem.ClaimMapViews
import Derived.JoinedTies
import Derived.KernelRfl
namespace Go.Proofs.Ytbpmddjhmoflgaa
/- THE CELL 'sum', in the pinned program and in every row, IS THE sha256 OF THE DUMP (.gsa) THAT YtbpmddjhmoflgaaProg.lean LOADS. Nothing in Lean hashes anything: it is a label: what it is worth is what the hold of that sum in a sandbox is worth. -/
noncomputable def Try.pinned : Pinned := { name := "ytbpmddjhmoflgaa", sum := "01a57c77a203d8c705177fa9489e510f9afde7dbdfc2f880835403e31ff964cc", checked := Try.checked }
namespace Rows
def none {H : Type} : Left H := { results := [], args := [] }

/-- 'laws.FnParts': WHATEVER THE INPUT: true; the input reads as it did. -/
def fnPartsSpec : ChangeSpec := { name := "fnParts", fn := fun _ => fun
  | [d] => { results := [.lit (.bool true)], args := [d] }
  | _ => none }
def fnPartsRow : OpenClaim := { program := "ytbpmddjhmoflgaa", sum := "01a57c77a203d8c705177fa9489e510f9afde7dbdfc2f880835403e31ff964cc", func := "loop.example/g03414/laws.FnParts", spec := "fnParts", inPlace := ["internal/abi.NoEscape"], apart := false }
def FnPartsSaid : Prop := fnPartsRow.holds Try.pinned (OpenSpec.ofChange fnPartsSpec)

/-- ITS FALSE NEIGHBOUR: 'it returns false'. Refute it at one input. -/
def fnPartsWrong : ChangeSpec := { name := "fnParts", fn := fun _ => fun
  | [d] => { results := [.lit (.bool false)], args := [d] }
  | _ => none }
def FnPartsWrongFalsely : Prop := fnPartsRow.holds Try.pinned (OpenSpec.ofChange fnPartsWrong)

/-- 'laws.FnExactSplitText': WHATEVER THE INPUT: true; the input reads as it did. -/
def fnExactSplitTextSpec : ChangeSpec := { name := "fnExactSplitText", fn := fun _ => fun
  | [d1, d2] => { results := [.lit (.bool true)], args := [d1, d2] }
  | _ => none }
def fnExactSplitTextRow : OpenClaim := { program := "ytbpmddjhmoflgaa", sum := "01a57c77a203d8c705177fa9489e510f9afde7dbdfc2f880835403e31ff964cc", func := "loop.example/g03414/laws.FnExactSplitText", spec := "fnExactSplitText", apart := false }
def FnExactSplitTextSaid : Prop := fnExactSplitTextRow.holds Try.pinned (OpenSpec.ofChange fnExactSplitTextSpec)

/-- ITS FALSE NEIGHBOUR: 'it returns false'. Refute it at one input. -/
def fnExactSplitTextWrong : ChangeSpec := { name := "fnExactSplitText", fn := fun _ => fun
  | [d1, d2] => { results := [.lit (.bool false)], args := [d1, d2] }
  | _ => none }
def FnExactSplitTextWrongFalsely : Prop := fnExactSplitTextRow.holds Try.pinned (OpenSpec.ofChange fnExactSplitTextWrong)

/-- 'laws.FnExactJoinText': WHATEVER THE INPUT: true; the input reads as it did. -/
def fnExactJoinTextSpec : ChangeSpec := { name := "fnExactJoinText", fn := fun _ => fun
  | [d1, d2] => { results := [.lit (.bool true)], args := [d1, d2] }
  | _ => none }
def fnExactJoinTextRow : OpenClaim := { program := "ytbpmddjhmoflgaa", sum := "01a57c77a203d8c705177fa9489e510f9afde7dbdfc2f880835403e31ff964cc", func := "loop.example/g03414/laws.FnExactJoinText", spec := "fnExactJoinText", inPlace := ["internal/abi.NoEscape"], apart := false }
def FnExactJoinTextSaid : Prop := fnExactJoinTextRow.holds Try.pinned (OpenSpec.ofChange fnExactJoinTextSpec)

/-- ITS FALSE NEIGHBOUR: 'it returns false'. Refute it at one input. -/
def fnExactJoinTextWrong : ChangeSpec := { name := "fnExactJoinText", fn := fun _ => fun
  | [d1, d2] => { results := [.lit (.bool false)], args := [d1, d2] }
  | _ => none }
def FnExactJoinTextWrongFalsely : Prop := fnExactJoinTextRow.holds Try.pinned (OpenSpec.ofChange fnExactJoinTextWrong)

/-- 'laws.FnExactFormatHex': WHATEVER THE INPUT: true; the input reads as it did. -/
def fnExactFormatHexSpec : ChangeSpec := { name := "fnExactFormatHex", fn := fun _ => fun
  | [d] => { results := [.lit (.bool true)], args := [d] }
  | _ => none }
def fnExactFormatHexRow : OpenClaim := { program := "ytbpmddjhmoflgaa", sum := "01a57c77a203d8c705177fa9489e510f9afde7dbdfc2f880835403e31ff964cc", func := "loop.example/g03414/laws.FnExactFormatHex", spec := "fnExactFormatHex", apart := false }
def FnExactFormatHexSaid : Prop := fnExactFormatHexRow.holds Try.pinned (OpenSpec.ofChange fnExactFormatHexSpec)

/-- ITS FALSE NEIGHBOUR: 'it returns false'. Refute it at one input. -/
def fnExactFormatHexWrong : ChangeSpec := { name := "fnExactFormatHex", fn := fun _ => fun
  | [d] => { results := [.lit (.bool false)], args := [d] }
  | _ => none }
def FnExactFormatHexWrongFalsely : Prop := fnExactFormatHexRow.holds Try.pinned (OpenSpec.ofChange fnExactFormatHexWrong)

/-- 'laws.FnExactParseHex': WHATEVER THE INPUT: true; the input reads as it did. -/
def fnExactParseHexSpec : ChangeSpec := { name := "fnExactParseHex", fn := fun _ => fun
  | [d] => { results := [.lit (.bool true)], args := [d] }
  | _ => none }
def fnExactParseHexRow : OpenClaim := { program := "ytbpmddjhmoflgaa", sum := "01a57c77a203d8c705177fa9489e510f9afde7dbdfc2f880835403e31ff964cc", func := "loop.example/g03414/laws.FnExactParseHex", spec := "fnExactParseHex", apart := false }
def FnExactParseHexSaid : Prop := fnExactParseHexRow.holds Try.pinned (OpenSpec.ofChange fnExactParseHexSpec)

/-- ITS FALSE NEIGHBOUR: 'it returns false'. Refute it at one input. -/
def fnExactParseHexWrong : ChangeSpec := { name := "fnExactParseHex", fn := fun _ => fun
  | [d] => { results := [.lit (.bool false)], args := [d] }
  | _ => none }
def FnExactParseHexWrongFalsely : Prop := fnExactParseHexRow.holds Try.pinned (OpenSpec.ofChange fnExactParseHexWrong)

/- THE SECOND FORM. 'bulk': how many values and letters a reading holds, each counted each time it is reached (what is shared counts as often as it is met; a slice's spare places count too). A statement '..UptoSaid' is the law's where the arguments, and the package variables that the reading takes, are together of bulk at most 1048576: NARROWER than '..Said'. Prove '..Said' where nothing that the law and all that it calls make is longer than what came in: it says more and counts as full. Else prove '..UptoSaid'. A law counts once. -/
mutual
def uptoBulk {H : Type} : DataW H → Nat
  | .lit (.string bytes) => bytes.length + 1
  | .lit _ => 1
  | .nil => 1
  | .ptr d => uptoBulk d + 1
  | .slice elems spare => uptoBulkAll elems + uptoBulkAll spare + 1
  | .agg parts => uptoBulkAll parts + 1
  | .iface _ d => uptoBulk d + 1
  | .map entries => uptoBulkEntries entries + 1
  | .held _ => 1
def uptoBulkAll {H : Type} : List (DataW H) → Nat
  | [] => 0
  | d :: r => uptoBulk d + uptoBulkAll r
def uptoBulkEntries {H : Type} : List (Lit × DataW H) → Nat
  | [] => 0
  | x :: r => uptoBulkEntry x + uptoBulkEntries r
def uptoBulkEntry {H : Type} : Lit × DataW H → Nat
  | (.string bytes, d) => bytes.length + uptoBulk d + 1
  | (_, d) => uptoBulk d + 1
 end
def uptoSmall : (H : Type) → List (DataW H) → Bool := fun _ ds => decide (uptoBulkAll ds ≤ 1048576)
def OpenSpec.upto (s : _root_.Go.ChangeSpec) : _root_.Go.OpenSpec := { _root_.Go.OpenSpec.ofChange s with cond := some uptoSmall }

/-- 'laws.FnParts', WHERE WHAT IT READS IS OF BULK AT MOST 1048576: true; the input reads as it did. -/
def fnPartsUptoRow : OpenClaim := { program := "ytbpmddjhmoflgaa", sum := "01a57c77a203d8c705177fa9489e510f9afde7dbdfc2f880835403e31ff964cc", func := "loop.example/g03414/laws.FnParts", spec := "fnParts", inPlace := ["internal/abi.NoEscape"], apart := false, narrowed := true }
def FnPartsUptoSaid : Prop := fnPartsUptoRow.holds Try.pinned (OpenSpec.upto fnPartsSpec)

/-- 'laws.FnExactSplitText', WHERE WHAT IT READS IS OF BULK AT MOST 1048576: true; the input reads as it did. -/
def fnExactSplitTextUptoRow : OpenClaim := { program := "ytbpmddjhmoflgaa", sum := "01a57c77a203d8c705177fa9489e510f9afde7dbdfc2f880835403e31ff964cc", func := "loop.example/g03414/laws.FnExactSplitText", spec := "fnExactSplitText", apart := false, narrowed := true }
def FnExactSplitTextUptoSaid : Prop := fnExactSplitTextUptoRow.holds Try.pinned (OpenSpec.upto fnExactSplitTextSpec)

/-- 'laws.FnExactJoinText', WHERE WHAT IT READS IS OF BULK AT MOST 1048576: true; the input reads as it did. -/
def fnExactJoinTextUptoRow : OpenClaim := { program := "ytbpmddjhmoflgaa", sum := "01a57c77a203d8c705177fa9489e510f9afde7dbdfc2f880835403e31ff964cc", func := "loop.example/g03414/laws.FnExactJoinText", spec := "fnExactJoinText", inPlace := ["internal/abi.NoEscape"], apart := false, narrowed := true }
def FnExactJoinTextUptoSaid : Prop := fnExactJoinTextUptoRow.holds Try.pinned (OpenSpec.upto fnExactJoinTextSpec)

/-- 'laws.FnExactFormatHex', WHERE WHAT IT READS IS OF BULK AT MOST 1048576: true; the input reads as it did. -/
def fnExactFormatHexUptoRow : OpenClaim := { program := "ytbpmddjhmoflgaa", sum := "01a57c77a203d8c705177fa9489e510f9afde7dbdfc2f880835403e31ff964cc", func := "loop.example/g03414/laws.FnExactFormatHex", spec := "fnExactFormatHex", apart := false, narrowed := true }
def FnExactFormatHexUptoSaid : Prop := fnExactFormatHexUptoRow.holds Try.pinned (OpenSpec.upto fnExactFormatHexSpec)

/-- 'laws.FnExactParseHex', WHERE WHAT IT READS IS OF BULK AT MOST 1048576: true; the input reads as it did. -/
def fnExactParseHexUptoRow : OpenClaim := { program := "ytbpmddjhmoflgaa", sum := "01a57c77a203d8c705177fa9489e510f9afde7dbdfc2f880835403e31ff964cc", func := "loop.example/g03414/laws.FnExactParseHex", spec := "fnExactParseHex", apart := false, narrowed := true }
def FnExactParseHexUptoSaid : Prop := fnExactParseHexUptoRow.holds Try.pinned (OpenSpec.upto fnExactParseHexSpec)

end Rows
end Go.Proofs.Ytbpmddjhmoflgaa
