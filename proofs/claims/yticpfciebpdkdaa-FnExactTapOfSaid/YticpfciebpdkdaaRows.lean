/-
  No cell of these rows narrows 'for every input' (looked for: loops, veiled, ifaces, maps, wideKeys, modest, calm, conditions, laid).
  DERIVED. THE GIVEN ROWS OF THIS SEAT. 6 by the template 'for every input the law returns true; each argument reads behind the call as it read before'; 0 by the template 'total and deterministic' (their statements: YticpfciebpdkdaaTotals.lean).
  GIVEN WITH THE SEED: the statements are not yours to turn. If you find one false, say at which input.
  Laid BY PROGRAM, IN A SANDBOX (cutbox-rows.mjs): the forced cells as the released guide's own fill.sh prints them over the translation 6e42d0bd0dc32517… (all of the seat's roots in one cut). By AI agents, Wed Nov 11 2026. No macro, syntax, notation, axiom, sorry.
-/
import Derived.Test.YticpfciebpdkdaaChecked
import GoSem.Claim
import GoSem.ClaimJoined
import GoSem.ClaimMapViews
import Derived.JoinedTies
import Derived.KernelRfl
namespace Go.Proofs.Yticpfciebpdkdaa
/- THE CELL 'sum', in the pinned program and in every row, IS THE sha256 OF THE DUMP (.gsa) THAT YticpfciebpdkdaaProg.lean LOADS. Nothing in Lean hashes anything: it is a label: what it is worth is what the hold of that sum in a sandbox is worth. -/
noncomputable def Try.pinned : Pinned := { name := "yticpfciebpdkdaa", sum := "6e42d0bd0dc32517dd74a625b045668544954aa7f192927c067da2101a3cb88e", checked := Try.checked }
namespace Rows
def none {H : Type} : Left H := { results := [], args := [] }

/-- 'laws.FnExactFormatMods': WHATEVER THE INPUT: true; the input reads as it did. -/
def fnExactFormatModsSpec : ChangeSpec := { name := "fnExactFormatMods", fn := fun _ => fun
  | [d] => { results := [.lit (.bool true)], args := [d] }
  | _ => none }
def fnExactFormatModsRow : OpenClaim := { program := "yticpfciebpdkdaa", sum := "6e42d0bd0dc32517dd74a625b045668544954aa7f192927c067da2101a3cb88e", func := "loop.example/g03414/laws.FnExactFormatMods", spec := "fnExactFormatMods", apart := false }
def FnExactFormatModsSaid : Prop := fnExactFormatModsRow.holds Try.pinned (OpenSpec.ofChange fnExactFormatModsSpec)

/-- ITS FALSE NEIGHBOUR: 'it returns false'. Refute it at one input. -/
def fnExactFormatModsWrong : ChangeSpec := { name := "fnExactFormatMods", fn := fun _ => fun
  | [d] => { results := [.lit (.bool false)], args := [d] }
  | _ => none }
def FnExactFormatModsWrongFalsely : Prop := fnExactFormatModsRow.holds Try.pinned (OpenSpec.ofChange fnExactFormatModsWrong)

/-- 'laws.FnExactParseMods': WHATEVER THE INPUT: true; the input reads as it did. -/
def fnExactParseModsSpec : ChangeSpec := { name := "fnExactParseMods", fn := fun _ => fun
  | [d] => { results := [.lit (.bool true)], args := [d] }
  | _ => none }
def fnExactParseModsRow : OpenClaim := { program := "yticpfciebpdkdaa", sum := "6e42d0bd0dc32517dd74a625b045668544954aa7f192927c067da2101a3cb88e", func := "loop.example/g03414/laws.FnExactParseMods", spec := "fnExactParseMods", apart := false }
def FnExactParseModsSaid : Prop := fnExactParseModsRow.holds Try.pinned (OpenSpec.ofChange fnExactParseModsSpec)

/-- ITS FALSE NEIGHBOUR: 'it returns false'. Refute it at one input. -/
def fnExactParseModsWrong : ChangeSpec := { name := "fnExactParseMods", fn := fun _ => fun
  | [d] => { results := [.lit (.bool false)], args := [d] }
  | _ => none }
def FnExactParseModsWrongFalsely : Prop := fnExactParseModsRow.holds Try.pinned (OpenSpec.ofChange fnExactParseModsWrong)

/-- 'laws.FnExactIsAction': WHATEVER THE INPUT: true; the input reads as it did. -/
def fnExactIsActionSpec : ChangeSpec := { name := "fnExactIsAction", fn := fun _ => fun
  | [d] => { results := [.lit (.bool true)], args := [d] }
  | _ => none }
def fnExactIsActionRow : OpenClaim := { program := "yticpfciebpdkdaa", sum := "6e42d0bd0dc32517dd74a625b045668544954aa7f192927c067da2101a3cb88e", func := "loop.example/g03414/laws.FnExactIsAction", spec := "fnExactIsAction", apart := false }
def FnExactIsActionSaid : Prop := fnExactIsActionRow.holds Try.pinned (OpenSpec.ofChange fnExactIsActionSpec)

/-- ITS FALSE NEIGHBOUR: 'it returns false'. Refute it at one input. -/
def fnExactIsActionWrong : ChangeSpec := { name := "fnExactIsAction", fn := fun _ => fun
  | [d] => { results := [.lit (.bool false)], args := [d] }
  | _ => none }
def FnExactIsActionWrongFalsely : Prop := fnExactIsActionRow.holds Try.pinned (OpenSpec.ofChange fnExactIsActionWrong)

/-- 'laws.FnExactIsTapHold': WHATEVER THE INPUT: true; the input reads as it did. -/
def fnExactIsTapHoldSpec : ChangeSpec := { name := "fnExactIsTapHold", fn := fun _ => fun
  | [d] => { results := [.lit (.bool true)], args := [d] }
  | _ => none }
def fnExactIsTapHoldRow : OpenClaim := { program := "yticpfciebpdkdaa", sum := "6e42d0bd0dc32517dd74a625b045668544954aa7f192927c067da2101a3cb88e", func := "loop.example/g03414/laws.FnExactIsTapHold", spec := "fnExactIsTapHold", apart := false }
def FnExactIsTapHoldSaid : Prop := fnExactIsTapHoldRow.holds Try.pinned (OpenSpec.ofChange fnExactIsTapHoldSpec)

/-- ITS FALSE NEIGHBOUR: 'it returns false'. Refute it at one input. -/
def fnExactIsTapHoldWrong : ChangeSpec := { name := "fnExactIsTapHold", fn := fun _ => fun
  | [d] => { results := [.lit (.bool false)], args := [d] }
  | _ => none }
def FnExactIsTapHoldWrongFalsely : Prop := fnExactIsTapHoldRow.holds Try.pinned (OpenSpec.ofChange fnExactIsTapHoldWrong)

/-- 'laws.FnExactTapOf': WHATEVER THE INPUT: true; the input reads as it did. -/
def fnExactTapOfSpec : ChangeSpec := { name := "fnExactTapOf", fn := fun _ => fun
  | [d] => { results := [.lit (.bool true)], args := [d] }
  | _ => none }
def fnExactTapOfRow : OpenClaim := { program := "yticpfciebpdkdaa", sum := "6e42d0bd0dc32517dd74a625b045668544954aa7f192927c067da2101a3cb88e", func := "loop.example/g03414/laws.FnExactTapOf", spec := "fnExactTapOf", apart := false }
def FnExactTapOfSaid : Prop := fnExactTapOfRow.holds Try.pinned (OpenSpec.ofChange fnExactTapOfSpec)

/-- ITS FALSE NEIGHBOUR: 'it returns false'. Refute it at one input. -/
def fnExactTapOfWrong : ChangeSpec := { name := "fnExactTapOf", fn := fun _ => fun
  | [d] => { results := [.lit (.bool false)], args := [d] }
  | _ => none }
def FnExactTapOfWrongFalsely : Prop := fnExactTapOfRow.holds Try.pinned (OpenSpec.ofChange fnExactTapOfWrong)

/-- 'laws.FnExactHoldOf': WHATEVER THE INPUT: true; the input reads as it did. -/
def fnExactHoldOfSpec : ChangeSpec := { name := "fnExactHoldOf", fn := fun _ => fun
  | [d] => { results := [.lit (.bool true)], args := [d] }
  | _ => none }
def fnExactHoldOfRow : OpenClaim := { program := "yticpfciebpdkdaa", sum := "6e42d0bd0dc32517dd74a625b045668544954aa7f192927c067da2101a3cb88e", func := "loop.example/g03414/laws.FnExactHoldOf", spec := "fnExactHoldOf", apart := false }
def FnExactHoldOfSaid : Prop := fnExactHoldOfRow.holds Try.pinned (OpenSpec.ofChange fnExactHoldOfSpec)

/-- ITS FALSE NEIGHBOUR: 'it returns false'. Refute it at one input. -/
def fnExactHoldOfWrong : ChangeSpec := { name := "fnExactHoldOf", fn := fun _ => fun
  | [d] => { results := [.lit (.bool false)], args := [d] }
  | _ => none }
def FnExactHoldOfWrongFalsely : Prop := fnExactHoldOfRow.holds Try.pinned (OpenSpec.ofChange fnExactHoldOfWrong)

/- THE SECOND FORM. 'bulk': how many values and letters a reading holds, each counted each time it is reached (what is shared counts as often as it is met; a slice's spare places count too). A statement '..UptoSaid' is the law's where the arguments, and the package variables that the reading takes, are together of bulk at most 1048576: NARROWER than '..Said'. Prove '..Said' where nothing that the law and all that it calls make is longer than what came in: it says more and counts as full. Else prove '..UptoSaid'. A law counts once. -/
mutual
def uptoBulk {H : Type} : DataW H → Nat
  | .lit (.string bytes) => bytes.length + 1
  | .lit _ => 1
  | .nil => 1
  | .ptr d => uptoBulk d + 1
  | .slice elems spare => uptoBulkAll elems + uptoBulkAll spare + 1
  | .agg parts => uptoBulkAll parts + 1
  | .iface _ d => uptoBulk d + 1
  | .map entries => uptoBulkEntries entries + 1
  | .held _ => 1
def uptoBulkAll {H : Type} : List (DataW H) → Nat
  | [] => 0
  | d :: r => uptoBulk d + uptoBulkAll r
def uptoBulkEntries {H : Type} : List (Lit × DataW H) → Nat
  | [] => 0
  | x :: r => uptoBulkEntry x + uptoBulkEntries r
def uptoBulkEntry {H : Type} : Lit × DataW H → Nat
  | (.string bytes, d) => bytes.length + uptoBulk d + 1
  | (_, d) => uptoBulk d + 1
 end
def uptoSmall : (H : Type) → List (DataW H) → Bool := fun _ ds => decide (uptoBulkAll ds ≤ 1048576)
def OpenSpec.upto (s : _root_.Go.ChangeSpec) : _root_.Go.OpenSpec := { _root_.Go.OpenSpec.ofChange s with cond := some uptoSmall }

/-- 'laws.FnExactFormatMods', WHERE WHAT IT READS IS OF BULK AT MOST 1048576: true; the input reads as it did. -/
def fnExactFormatModsUptoRow : OpenClaim := { program := "yticpfciebpdkdaa", sum := "6e42d0bd0dc32517dd74a625b045668544954aa7f192927c067da2101a3cb88e", func := "loop.example/g03414/laws.FnExactFormatMods", spec := "fnExactFormatMods", apart := false, narrowed := true }
def FnExactFormatModsUptoSaid : Prop := fnExactFormatModsUptoRow.holds Try.pinned (OpenSpec.upto fnExactFormatModsSpec)

/-- 'laws.FnExactParseMods', WHERE WHAT IT READS IS OF BULK AT MOST 1048576: true; the input reads as it did. -/
def fnExactParseModsUptoRow : OpenClaim := { program := "yticpfciebpdkdaa", sum := "6e42d0bd0dc32517dd74a625b045668544954aa7f192927c067da2101a3cb88e", func := "loop.example/g03414/laws.FnExactParseMods", spec := "fnExactParseMods", apart := false, narrowed := true }
def FnExactParseModsUptoSaid : Prop := fnExactParseModsUptoRow.holds Try.pinned (OpenSpec.upto fnExactParseModsSpec)

/-- 'laws.FnExactIsAction', WHERE WHAT IT READS IS OF BULK AT MOST 1048576: true; the input reads as it did. -/
def fnExactIsActionUptoRow : OpenClaim := { program := "yticpfciebpdkdaa", sum := "6e42d0bd0dc32517dd74a625b045668544954aa7f192927c067da2101a3cb88e", func := "loop.example/g03414/laws.FnExactIsAction", spec := "fnExactIsAction", apart := false, narrowed := true }
def FnExactIsActionUptoSaid : Prop := fnExactIsActionUptoRow.holds Try.pinned (OpenSpec.upto fnExactIsActionSpec)

/-- 'laws.FnExactIsTapHold', WHERE WHAT IT READS IS OF BULK AT MOST 1048576: true; the input reads as it did. -/
def fnExactIsTapHoldUptoRow : OpenClaim := { program := "yticpfciebpdkdaa", sum := "6e42d0bd0dc32517dd74a625b045668544954aa7f192927c067da2101a3cb88e", func := "loop.example/g03414/laws.FnExactIsTapHold", spec := "fnExactIsTapHold", apart := false, narrowed := true }
def FnExactIsTapHoldUptoSaid : Prop := fnExactIsTapHoldUptoRow.holds Try.pinned (OpenSpec.upto fnExactIsTapHoldSpec)

/-- 'laws.FnExactTapOf', WHERE WHAT IT READS IS OF BULK AT MOST 1048576: true; the input reads as it did. -/
def fnExactTapOfUptoRow : OpenClaim := { program := "yticpfciebpdkdaa", sum := "6e42d0bd0dc32517dd74a625b045668544954aa7f192927c067da2101a3cb88e", func := "loop.example/g03414/laws.FnExactTapOf", spec := "fnExactTapOf", apart := false, narrowed := true }
def FnExactTapOfUptoSaid : Prop := fnExactTapOfUptoRow.holds Try.pinned (OpenSpec.upto fnExactTapOfSpec)

/-- 'laws.FnExactHoldOf', WHERE WHAT IT READS IS OF BULK AT MOST 1048576: true; the input reads as it did. -/
def fnExactHoldOfUptoRow : OpenClaim := { program := "yticpfciebpdkdaa", sum := "6e42d0bd0dc32517dd74a625b045668544954aa7f192927c067da2101a3cb88e", func := "loop.example/g03414/laws.FnExactHoldOf", spec := "fnExactHoldOf", apart := false, narrowed := true }
def FnExactHoldOfUptoSaid : Prop := fnExactHoldOfUptoRow.holds Try.pinned (OpenSpec.upto fnExactHoldOfSpec)

end Rows
end Go.Proofs.Yticpfciebpdkdaa
