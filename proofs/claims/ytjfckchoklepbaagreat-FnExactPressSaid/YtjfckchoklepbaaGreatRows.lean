/-
  No cell of these rows narrows 'for every input' (looked for: loops, veiled, ifaces, maps, wideKeys, modest, calm, conditions, laid).
  DERIVED. THE GIVEN ROWS OF THIS SEAT. 13 by the template 'for every input the law returns true; each argument reads behind the call as it read before'; 0 by the template 'total and deterministic' (their statements: YtjfckchoklepbaaGreatTotals.lean).
  GIVEN WITH THE SEED: the statements are not yours to turn. If you find one false, say at which input.
  Laid BY PROGRAM, IN A SANDBOX (cutbox-rows.mjs): the forced cells as the released guide's own fill.sh prints them over the translation 39450682608346bd… (all of the seat's roots in one cut). By AI agents, Wed Nov 11 2026. No macro, syntax, notation, axiom, sorry.
-/
import Derived.Test.YtjfckchoklepbaaGreatChecked
import GoSem.Claim
import GoSem.ClaimJoined
import GoSem.ClaimMapViews
import Derived.JoinedTies
import Derived.KernelRfl
namespace Go.Proofs.YtjfckchoklepbaaGreat
/- THE CELL 'sum', in the pinned program and in every row, IS THE sha256 OF THE DUMP (.gsa) THAT YtjfckchoklepbaaGreatProg.lean LOADS. Nothing in Lean hashes anything: it is a label: what it is worth is what the hold of that sum in a sandbox is worth. -/
noncomputable def Tryz.pinned : Pinned := { name := "ytjfckchoklepbaagreat", sum := "39450682608346bd54c301252f72adcdbce00eb1a9ed45f94d26c30d65007a82", checked := Tryz.checked }
namespace Rows
def none {H : Type} : Left H := { results := [], args := [] }

/-- 'laws.FnPressed': WHATEVER THE INPUT: true; the input reads as it did. -/
def fnPressedSpec : ChangeSpec := { name := "fnPressed", fn := fun _ => fun
  | [d] => { results := [.lit (.bool true)], args := [d] }
  | _ => none }
def fnPressedRow : OpenClaim := { program := "ytjfckchoklepbaagreat", sum := "39450682608346bd54c301252f72adcdbce00eb1a9ed45f94d26c30d65007a82", func := "loop.example/g03414/laws.FnPressed", spec := "fnPressed", unfollowed := true, recurses := true, apart := false }
def FnPressedSaid : Prop := fnPressedRow.holds Tryz.pinned (OpenSpec.ofChange fnPressedSpec)

/-- ITS FALSE NEIGHBOUR: 'it returns false'. Refute it at one input. -/
def fnPressedWrong : ChangeSpec := { name := "fnPressed", fn := fun _ => fun
  | [d] => { results := [.lit (.bool false)], args := [d] }
  | _ => none }
def FnPressedWrongFalsely : Prop := fnPressedRow.holds Tryz.pinned (OpenSpec.ofChange fnPressedWrong)

/-- 'laws.FnOnce': WHATEVER THE INPUT: true; the input reads as it did. -/
def fnOnceSpec : ChangeSpec := { name := "fnOnce", fn := fun _ => fun
  | [d] => { results := [.lit (.bool true)], args := [d] }
  | _ => none }
def fnOnceRow : OpenClaim := { program := "ytjfckchoklepbaagreat", sum := "39450682608346bd54c301252f72adcdbce00eb1a9ed45f94d26c30d65007a82", func := "loop.example/g03414/laws.FnOnce", spec := "fnOnce", unfollowed := true, recurses := true, apart := false }
def FnOnceSaid : Prop := fnOnceRow.holds Tryz.pinned (OpenSpec.ofChange fnOnceSpec)

/-- ITS FALSE NEIGHBOUR: 'it returns false'. Refute it at one input. -/
def fnOnceWrong : ChangeSpec := { name := "fnOnce", fn := fun _ => fun
  | [d] => { results := [.lit (.bool false)], args := [d] }
  | _ => none }
def FnOnceWrongFalsely : Prop := fnOnceRow.holds Tryz.pinned (OpenSpec.ofChange fnOnceWrong)

/-- 'laws.FnCaps': WHATEVER THE INPUT: true; the input reads as it did. -/
def fnCapsSpec : ChangeSpec := { name := "fnCaps", fn := fun _ => fun
  | [d] => { results := [.lit (.bool true)], args := [d] }
  | _ => none }
def fnCapsRow : OpenClaim := { program := "ytjfckchoklepbaagreat", sum := "39450682608346bd54c301252f72adcdbce00eb1a9ed45f94d26c30d65007a82", func := "loop.example/g03414/laws.FnCaps", spec := "fnCaps", unfollowed := true, recurses := true, apart := false }
def FnCapsSaid : Prop := fnCapsRow.holds Tryz.pinned (OpenSpec.ofChange fnCapsSpec)

/-- ITS FALSE NEIGHBOUR: 'it returns false'. Refute it at one input. -/
def fnCapsWrong : ChangeSpec := { name := "fnCaps", fn := fun _ => fun
  | [d] => { results := [.lit (.bool false)], args := [d] }
  | _ => none }
def FnCapsWrongFalsely : Prop := fnCapsRow.holds Tryz.pinned (OpenSpec.ofChange fnCapsWrong)

/-- 'laws.FnDecided': WHATEVER THE INPUT: true; the input reads as it did. -/
def fnDecidedSpec : ChangeSpec := { name := "fnDecided", fn := fun _ => fun
  | [d] => { results := [.lit (.bool true)], args := [d] }
  | _ => none }
def fnDecidedRow : OpenClaim := { program := "ytjfckchoklepbaagreat", sum := "39450682608346bd54c301252f72adcdbce00eb1a9ed45f94d26c30d65007a82", func := "loop.example/g03414/laws.FnDecided", spec := "fnDecided", unfollowed := true, recurses := true, apart := false }
def FnDecidedSaid : Prop := fnDecidedRow.holds Tryz.pinned (OpenSpec.ofChange fnDecidedSpec)

/-- ITS FALSE NEIGHBOUR: 'it returns false'. Refute it at one input. -/
def fnDecidedWrong : ChangeSpec := { name := "fnDecided", fn := fun _ => fun
  | [d] => { results := [.lit (.bool false)], args := [d] }
  | _ => none }
def FnDecidedWrongFalsely : Prop := fnDecidedRow.holds Tryz.pinned (OpenSpec.ofChange fnDecidedWrong)

/-- 'laws.FnTwoParts': WHATEVER THE INPUT: true; the input reads as it did. -/
def fnTwoPartsSpec : ChangeSpec := { name := "fnTwoParts", fn := fun _ => fun
  | [d] => { results := [.lit (.bool true)], args := [d] }
  | _ => none }
def fnTwoPartsRow : OpenClaim := { program := "ytjfckchoklepbaagreat", sum := "39450682608346bd54c301252f72adcdbce00eb1a9ed45f94d26c30d65007a82", func := "loop.example/g03414/laws.FnTwoParts", spec := "fnTwoParts", unfollowed := true, recurses := true, apart := false }
def FnTwoPartsSaid : Prop := fnTwoPartsRow.holds Tryz.pinned (OpenSpec.ofChange fnTwoPartsSpec)

/-- ITS FALSE NEIGHBOUR: 'it returns false'. Refute it at one input. -/
def fnTwoPartsWrong : ChangeSpec := { name := "fnTwoParts", fn := fun _ => fun
  | [d] => { results := [.lit (.bool false)], args := [d] }
  | _ => none }
def FnTwoPartsWrongFalsely : Prop := fnTwoPartsRow.holds Tryz.pinned (OpenSpec.ofChange fnTwoPartsWrong)

/-- 'laws.FnPrompt': WHATEVER THE INPUT: true; the input reads as it did. -/
def fnPromptSpec : ChangeSpec := { name := "fnPrompt", fn := fun _ => fun
  | [d] => { results := [.lit (.bool true)], args := [d] }
  | _ => none }
def fnPromptRow : OpenClaim := { program := "ytjfckchoklepbaagreat", sum := "39450682608346bd54c301252f72adcdbce00eb1a9ed45f94d26c30d65007a82", func := "loop.example/g03414/laws.FnPrompt", spec := "fnPrompt", unfollowed := true, recurses := true, apart := false }
def FnPromptSaid : Prop := fnPromptRow.holds Tryz.pinned (OpenSpec.ofChange fnPromptSpec)

/-- ITS FALSE NEIGHBOUR: 'it returns false'. Refute it at one input. -/
def fnPromptWrong : ChangeSpec := { name := "fnPrompt", fn := fun _ => fun
  | [d] => { results := [.lit (.bool false)], args := [d] }
  | _ => none }
def FnPromptWrongFalsely : Prop := fnPromptRow.holds Tryz.pinned (OpenSpec.ofChange fnPromptWrong)

/-- 'laws.FnPlain': WHATEVER THE INPUT: true; the input reads as it did. -/
def fnPlainSpec : ChangeSpec := { name := "fnPlain", fn := fun _ => fun
  | [d] => { results := [.lit (.bool true)], args := [d] }
  | _ => none }
def fnPlainRow : OpenClaim := { program := "ytjfckchoklepbaagreat", sum := "39450682608346bd54c301252f72adcdbce00eb1a9ed45f94d26c30d65007a82", func := "loop.example/g03414/laws.FnPlain", spec := "fnPlain", unfollowed := true, recurses := true, apart := false }
def FnPlainSaid : Prop := fnPlainRow.holds Tryz.pinned (OpenSpec.ofChange fnPlainSpec)

/-- ITS FALSE NEIGHBOUR: 'it returns false'. Refute it at one input. -/
def fnPlainWrong : ChangeSpec := { name := "fnPlain", fn := fun _ => fun
  | [d] => { results := [.lit (.bool false)], args := [d] }
  | _ => none }
def FnPlainWrongFalsely : Prop := fnPlainRow.holds Tryz.pinned (OpenSpec.ofChange fnPlainWrong)

/-- 'laws.FnExactPress': WHATEVER THE INPUT: true; the input reads as it did. -/
def fnExactPressSpec : ChangeSpec := { name := "fnExactPress", fn := fun _ => fun
  | [d1, d2, d3] => { results := [.lit (.bool true)], args := [d1, d2, d3] }
  | _ => none }
def fnExactPressRow : OpenClaim := { program := "ytjfckchoklepbaagreat", sum := "39450682608346bd54c301252f72adcdbce00eb1a9ed45f94d26c30d65007a82", func := "loop.example/g03414/laws.FnExactPress", spec := "fnExactPress", unfollowed := true, recurses := true, apart := false }
def FnExactPressSaid : Prop := fnExactPressRow.holds Tryz.pinned (OpenSpec.ofChange fnExactPressSpec)

/-- ITS FALSE NEIGHBOUR: 'it returns false'. Refute it at one input. -/
def fnExactPressWrong : ChangeSpec := { name := "fnExactPress", fn := fun _ => fun
  | [d1, d2, d3] => { results := [.lit (.bool false)], args := [d1, d2, d3] }
  | _ => none }
def FnExactPressWrongFalsely : Prop := fnExactPressRow.holds Tryz.pinned (OpenSpec.ofChange fnExactPressWrong)

/-- 'laws.FnExactTapKeys': WHATEVER THE INPUT: true; the input reads as it did. -/
def fnExactTapKeysSpec : ChangeSpec := { name := "fnExactTapKeys", fn := fun _ => fun
  | [d1, d2] => { results := [.lit (.bool true)], args := [d1, d2] }
  | _ => none }
def fnExactTapKeysRow : OpenClaim := { program := "ytjfckchoklepbaagreat", sum := "39450682608346bd54c301252f72adcdbce00eb1a9ed45f94d26c30d65007a82", func := "loop.example/g03414/laws.FnExactTapKeys", spec := "fnExactTapKeys", unfollowed := true, recurses := true, apart := false }
def FnExactTapKeysSaid : Prop := fnExactTapKeysRow.holds Tryz.pinned (OpenSpec.ofChange fnExactTapKeysSpec)

/-- ITS FALSE NEIGHBOUR: 'it returns false'. Refute it at one input. -/
def fnExactTapKeysWrong : ChangeSpec := { name := "fnExactTapKeys", fn := fun _ => fun
  | [d1, d2] => { results := [.lit (.bool false)], args := [d1, d2] }
  | _ => none }
def FnExactTapKeysWrongFalsely : Prop := fnExactTapKeysRow.holds Tryz.pinned (OpenSpec.ofChange fnExactTapKeysWrong)

/-- 'laws.FnExactNewDecider': WHATEVER THE INPUT: true; the input reads as it did. -/
def fnExactNewDeciderSpec : ChangeSpec := { name := "fnExactNewDecider", fn := fun _ => fun
  | [d1, d2] => { results := [.lit (.bool true)], args := [d1, d2] }
  | _ => none }
def fnExactNewDeciderRow : OpenClaim := { program := "ytjfckchoklepbaagreat", sum := "39450682608346bd54c301252f72adcdbce00eb1a9ed45f94d26c30d65007a82", func := "loop.example/g03414/laws.FnExactNewDecider", spec := "fnExactNewDecider", unfollowed := true, recurses := true, apart := false }
def FnExactNewDeciderSaid : Prop := fnExactNewDeciderRow.holds Tryz.pinned (OpenSpec.ofChange fnExactNewDeciderSpec)

/-- ITS FALSE NEIGHBOUR: 'it returns false'. Refute it at one input. -/
def fnExactNewDeciderWrong : ChangeSpec := { name := "fnExactNewDecider", fn := fun _ => fun
  | [d1, d2] => { results := [.lit (.bool false)], args := [d1, d2] }
  | _ => none }
def FnExactNewDeciderWrongFalsely : Prop := fnExactNewDeciderRow.holds Tryz.pinned (OpenSpec.ofChange fnExactNewDeciderWrong)

/-- 'laws.FnExactPlayEvents': WHATEVER THE INPUT: true; the input reads as it did. -/
def fnExactPlayEventsSpec : ChangeSpec := { name := "fnExactPlayEvents", fn := fun _ => fun
  | [d1, d2, d3] => { results := [.lit (.bool true)], args := [d1, d2, d3] }
  | _ => none }
def fnExactPlayEventsRow : OpenClaim := { program := "ytjfckchoklepbaagreat", sum := "39450682608346bd54c301252f72adcdbce00eb1a9ed45f94d26c30d65007a82", func := "loop.example/g03414/laws.FnExactPlayEvents", spec := "fnExactPlayEvents", unfollowed := true, recurses := true, apart := false }
def FnExactPlayEventsSaid : Prop := fnExactPlayEventsRow.holds Tryz.pinned (OpenSpec.ofChange fnExactPlayEventsSpec)

/-- ITS FALSE NEIGHBOUR: 'it returns false'. Refute it at one input. -/
def fnExactPlayEventsWrong : ChangeSpec := { name := "fnExactPlayEvents", fn := fun _ => fun
  | [d1, d2, d3] => { results := [.lit (.bool false)], args := [d1, d2, d3] }
  | _ => none }
def FnExactPlayEventsWrongFalsely : Prop := fnExactPlayEventsRow.holds Tryz.pinned (OpenSpec.ofChange fnExactPlayEventsWrong)

/-- 'laws.FnExactFeedEvent': WHATEVER THE INPUT: true; the input reads as it did. -/
def fnExactFeedEventSpec : ChangeSpec := { name := "fnExactFeedEvent", fn := fun _ => fun
  | [d1, d2] => { results := [.lit (.bool true)], args := [d1, d2] }
  | _ => none }
def fnExactFeedEventRow : OpenClaim := { program := "ytjfckchoklepbaagreat", sum := "39450682608346bd54c301252f72adcdbce00eb1a9ed45f94d26c30d65007a82", func := "loop.example/g03414/laws.FnExactFeedEvent", spec := "fnExactFeedEvent", unfollowed := true, recurses := true, apart := false }
def FnExactFeedEventSaid : Prop := fnExactFeedEventRow.holds Tryz.pinned (OpenSpec.ofChange fnExactFeedEventSpec)

/-- ITS FALSE NEIGHBOUR: 'it returns false'. Refute it at one input. -/
def fnExactFeedEventWrong : ChangeSpec := { name := "fnExactFeedEvent", fn := fun _ => fun
  | [d1, d2] => { results := [.lit (.bool false)], args := [d1, d2] }
  | _ => none }
def FnExactFeedEventWrongFalsely : Prop := fnExactFeedEventRow.holds Tryz.pinned (OpenSpec.ofChange fnExactFeedEventWrong)

/-- 'laws.FnExactWaitUntil': WHATEVER THE INPUT: true; the input reads as it did. -/
def fnExactWaitUntilSpec : ChangeSpec := { name := "fnExactWaitUntil", fn := fun _ => fun
  | [d1, d2] => { results := [.lit (.bool true)], args := [d1, d2] }
  | _ => none }
def fnExactWaitUntilRow : OpenClaim := { program := "ytjfckchoklepbaagreat", sum := "39450682608346bd54c301252f72adcdbce00eb1a9ed45f94d26c30d65007a82", func := "loop.example/g03414/laws.FnExactWaitUntil", spec := "fnExactWaitUntil", unfollowed := true, recurses := true, apart := false }
def FnExactWaitUntilSaid : Prop := fnExactWaitUntilRow.holds Tryz.pinned (OpenSpec.ofChange fnExactWaitUntilSpec)

/-- ITS FALSE NEIGHBOUR: 'it returns false'. Refute it at one input. -/
def fnExactWaitUntilWrong : ChangeSpec := { name := "fnExactWaitUntil", fn := fun _ => fun
  | [d1, d2] => { results := [.lit (.bool false)], args := [d1, d2] }
  | _ => none }
def FnExactWaitUntilWrongFalsely : Prop := fnExactWaitUntilRow.holds Tryz.pinned (OpenSpec.ofChange fnExactWaitUntilWrong)

/- THE SECOND FORM. 'bulk': how many values and letters a reading holds, each counted each time it is reached (what is shared counts as often as it is met; a slice's spare places count too). A statement '..UptoSaid' is the law's where the arguments, and the package variables that the reading takes, are together of bulk at most 1048576: NARROWER than '..Said'. Prove '..Said' where nothing that the law and all that it calls make is longer than what came in: it says more and counts as full. Else prove '..UptoSaid'. A law counts once. -/
mutual
def uptoBulk {H : Type} : DataW H → Nat
  | .lit (.string bytes) => bytes.length + 1
  | .lit _ => 1
  | .nil => 1
  | .ptr d => uptoBulk d + 1
  | .slice elems spare => uptoBulkAll elems + uptoBulkAll spare + 1
  | .agg parts => uptoBulkAll parts + 1
  | .iface _ d => uptoBulk d + 1
  | .map entries => uptoBulkEntries entries + 1
  | .held _ => 1
def uptoBulkAll {H : Type} : List (DataW H) → Nat
  | [] => 0
  | d :: r => uptoBulk d + uptoBulkAll r
def uptoBulkEntries {H : Type} : List (Lit × DataW H) → Nat
  | [] => 0
  | x :: r => uptoBulkEntry x + uptoBulkEntries r
def uptoBulkEntry {H : Type} : Lit × DataW H → Nat
  | (.string bytes, d) => bytes.length + uptoBulk d + 1
  | (_, d) => uptoBulk d + 1
 end
def uptoSmall : (H : Type) → List (DataW H) → Bool := fun _ ds => decide (uptoBulkAll ds ≤ 1048576)
def OpenSpec.upto (s : _root_.Go.ChangeSpec) : _root_.Go.OpenSpec := { _root_.Go.OpenSpec.ofChange s with cond := some uptoSmall }

/-- 'laws.FnPressed', WHERE WHAT IT READS IS OF BULK AT MOST 1048576: true; the input reads as it did. -/
def fnPressedUptoRow : OpenClaim := { program := "ytjfckchoklepbaagreat", sum := "39450682608346bd54c301252f72adcdbce00eb1a9ed45f94d26c30d65007a82", func := "loop.example/g03414/laws.FnPressed", spec := "fnPressed", unfollowed := true, recurses := true, apart := false, narrowed := true }
def FnPressedUptoSaid : Prop := fnPressedUptoRow.holds Tryz.pinned (OpenSpec.upto fnPressedSpec)

/-- 'laws.FnOnce', WHERE WHAT IT READS IS OF BULK AT MOST 1048576: true; the input reads as it did. -/
def fnOnceUptoRow : OpenClaim := { program := "ytjfckchoklepbaagreat", sum := "39450682608346bd54c301252f72adcdbce00eb1a9ed45f94d26c30d65007a82", func := "loop.example/g03414/laws.FnOnce", spec := "fnOnce", unfollowed := true, recurses := true, apart := false, narrowed := true }
def FnOnceUptoSaid : Prop := fnOnceUptoRow.holds Tryz.pinned (OpenSpec.upto fnOnceSpec)

/-- 'laws.FnCaps', WHERE WHAT IT READS IS OF BULK AT MOST 1048576: true; the input reads as it did. -/
def fnCapsUptoRow : OpenClaim := { program := "ytjfckchoklepbaagreat", sum := "39450682608346bd54c301252f72adcdbce00eb1a9ed45f94d26c30d65007a82", func := "loop.example/g03414/laws.FnCaps", spec := "fnCaps", unfollowed := true, recurses := true, apart := false, narrowed := true }
def FnCapsUptoSaid : Prop := fnCapsUptoRow.holds Tryz.pinned (OpenSpec.upto fnCapsSpec)

/-- 'laws.FnDecided', WHERE WHAT IT READS IS OF BULK AT MOST 1048576: true; the input reads as it did. -/
def fnDecidedUptoRow : OpenClaim := { program := "ytjfckchoklepbaagreat", sum := "39450682608346bd54c301252f72adcdbce00eb1a9ed45f94d26c30d65007a82", func := "loop.example/g03414/laws.FnDecided", spec := "fnDecided", unfollowed := true, recurses := true, apart := false, narrowed := true }
def FnDecidedUptoSaid : Prop := fnDecidedUptoRow.holds Tryz.pinned (OpenSpec.upto fnDecidedSpec)

/-- 'laws.FnTwoParts', WHERE WHAT IT READS IS OF BULK AT MOST 1048576: true; the input reads as it did. -/
def fnTwoPartsUptoRow : OpenClaim := { program := "ytjfckchoklepbaagreat", sum := "39450682608346bd54c301252f72adcdbce00eb1a9ed45f94d26c30d65007a82", func := "loop.example/g03414/laws.FnTwoParts", spec := "fnTwoParts", unfollowed := true, recurses := true, apart := false, narrowed := true }
def FnTwoPartsUptoSaid : Prop := fnTwoPartsUptoRow.holds Tryz.pinned (OpenSpec.upto fnTwoPartsSpec)

/-- 'laws.FnPrompt', WHERE WHAT IT READS IS OF BULK AT MOST 1048576: true; the input reads as it did. -/
def fnPromptUptoRow : OpenClaim := { program := "ytjfckchoklepbaagreat", sum := "39450682608346bd54c301252f72adcdbce00eb1a9ed45f94d26c30d65007a82", func := "loop.example/g03414/laws.FnPrompt", spec := "fnPrompt", unfollowed := true, recurses := true, apart := false, narrowed := true }
def FnPromptUptoSaid : Prop := fnPromptUptoRow.holds Tryz.pinned (OpenSpec.upto fnPromptSpec)

/-- 'laws.FnPlain', WHERE WHAT IT READS IS OF BULK AT MOST 1048576: true; the input reads as it did. -/
def fnPlainUptoRow : OpenClaim := { program := "ytjfckchoklepbaagreat", sum := "39450682608346bd54c301252f72adcdbce00eb1a9ed45f94d26c30d65007a82", func := "loop.example/g03414/laws.FnPlain", spec := "fnPlain", unfollowed := true, recurses := true, apart := false, narrowed := true }
def FnPlainUptoSaid : Prop := fnPlainUptoRow.holds Tryz.pinned (OpenSpec.upto fnPlainSpec)

/-- 'laws.FnExactPress', WHERE WHAT IT READS IS OF BULK AT MOST 1048576: true; the input reads as it did. -/
def fnExactPressUptoRow : OpenClaim := { program := "ytjfckchoklepbaagreat", sum := "39450682608346bd54c301252f72adcdbce00eb1a9ed45f94d26c30d65007a82", func := "loop.example/g03414/laws.FnExactPress", spec := "fnExactPress", unfollowed := true, recurses := true, apart := false, narrowed := true }
def FnExactPressUptoSaid : Prop := fnExactPressUptoRow.holds Tryz.pinned (OpenSpec.upto fnExactPressSpec)

/-- 'laws.FnExactTapKeys', WHERE WHAT IT READS IS OF BULK AT MOST 1048576: true; the input reads as it did. -/
def fnExactTapKeysUptoRow : OpenClaim := { program := "ytjfckchoklepbaagreat", sum := "39450682608346bd54c301252f72adcdbce00eb1a9ed45f94d26c30d65007a82", func := "loop.example/g03414/laws.FnExactTapKeys", spec := "fnExactTapKeys", unfollowed := true, recurses := true, apart := false, narrowed := true }
def FnExactTapKeysUptoSaid : Prop := fnExactTapKeysUptoRow.holds Tryz.pinned (OpenSpec.upto fnExactTapKeysSpec)

/-- 'laws.FnExactNewDecider', WHERE WHAT IT READS IS OF BULK AT MOST 1048576: true; the input reads as it did. -/
def fnExactNewDeciderUptoRow : OpenClaim := { program := "ytjfckchoklepbaagreat", sum := "39450682608346bd54c301252f72adcdbce00eb1a9ed45f94d26c30d65007a82", func := "loop.example/g03414/laws.FnExactNewDecider", spec := "fnExactNewDecider", unfollowed := true, recurses := true, apart := false, narrowed := true }
def FnExactNewDeciderUptoSaid : Prop := fnExactNewDeciderUptoRow.holds Tryz.pinned (OpenSpec.upto fnExactNewDeciderSpec)

/-- 'laws.FnExactPlayEvents', WHERE WHAT IT READS IS OF BULK AT MOST 1048576: true; the input reads as it did. -/
def fnExactPlayEventsUptoRow : OpenClaim := { program := "ytjfckchoklepbaagreat", sum := "39450682608346bd54c301252f72adcdbce00eb1a9ed45f94d26c30d65007a82", func := "loop.example/g03414/laws.FnExactPlayEvents", spec := "fnExactPlayEvents", unfollowed := true, recurses := true, apart := false, narrowed := true }
def FnExactPlayEventsUptoSaid : Prop := fnExactPlayEventsUptoRow.holds Tryz.pinned (OpenSpec.upto fnExactPlayEventsSpec)

/-- 'laws.FnExactFeedEvent', WHERE WHAT IT READS IS OF BULK AT MOST 1048576: true; the input reads as it did. -/
def fnExactFeedEventUptoRow : OpenClaim := { program := "ytjfckchoklepbaagreat", sum := "39450682608346bd54c301252f72adcdbce00eb1a9ed45f94d26c30d65007a82", func := "loop.example/g03414/laws.FnExactFeedEvent", spec := "fnExactFeedEvent", unfollowed := true, recurses := true, apart := false, narrowed := true }
def FnExactFeedEventUptoSaid : Prop := fnExactFeedEventUptoRow.holds Tryz.pinned (OpenSpec.upto fnExactFeedEventSpec)

/-- 'laws.FnExactWaitUntil', WHERE WHAT IT READS IS OF BULK AT MOST 1048576: true; the input reads as it did. -/
def fnExactWaitUntilUptoRow : OpenClaim := { program := "ytjfckchoklepbaagreat", sum := "39450682608346bd54c301252f72adcdbce00eb1a9ed45f94d26c30d65007a82", func := "loop.example/g03414/laws.FnExactWaitUntil", spec := "fnExactWaitUntil", unfollowed := true, recurses := true, apart := false, narrowed := true }
def FnExactWaitUntilUptoSaid : Prop := fnExactWaitUntilUptoRow.holds Tryz.pinned (OpenSpec.upto fnExactWaitUntilSpec)

end Rows
end Go.Proofs.YtjfckchoklepbaaGreat
