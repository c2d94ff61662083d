/-
  No cell of these rows narrows 'for every input' (looked for: loops, veiled, ifaces, maps, wideKeys, modest, calm, conditions, laid).
  DERIVED. THE GIVEN ROWS OF THIS SEAT. 9 by the template 'for every input the law returns true; each argument reads behind the call as it read before'; 0 by the template 'total and deterministic' (their statements: YtleheibpgngmiaaTotals.lean).
  GIVEN WITH THE SEED: the statements are not yours to turn. If you find one false, say at which input.
  Laid BY PROGRAM, IN A SANDBOX (cutbox-rows.mjs): the forced cells as the released guide's own fill.sh prints them over the translation 2f1b514a604bbfe6… (all of the seat's roots in one cut). By AI agents, Wed Nov 11 2026. No macro, syntax, notation, axiom, sorry.
-/
import Derived.Test.YtleheibpgngmiaaChecked
import GoSem.Claim
import GoSem.ClaimJoined
import GoSem.ClaimMapViews
import Derived.JoinedTies
import Derived.KernelRfl
namespace Go.Proofs.Ytleheibpgngmiaa
/- THE CELL 'sum', in the pinned program and in every row, IS THE sha256 OF THE DUMP (.gsa) THAT YtleheibpgngmiaaProg.lean LOADS. Nothing in Lean hashes anything: it is a label: what it is worth is what the hold of that sum in a sandbox is worth. -/
noncomputable def Try.pinned : Pinned := { name := "ytleheibpgngmiaa", sum := "2f1b514a604bbfe618329728f50f313a64a2ed1305e130f0452a1b4584f3d374", checked := Try.checked }
namespace Rows
def none {H : Type} : Left H := { results := [], args := [] }

/-- 'laws.FnLayers': WHATEVER THE INPUT: true; the input reads as it did. -/
def fnLayersSpec : ChangeSpec := { name := "fnLayers", fn := fun _ => fun
  | [d] => { results := [.lit (.bool true)], args := [d] }
  | _ => none }
def fnLayersRow : OpenClaim := { program := "ytleheibpgngmiaa", sum := "2f1b514a604bbfe618329728f50f313a64a2ed1305e130f0452a1b4584f3d374", func := "loop.example/g03414/laws.FnLayers", spec := "fnLayers", apart := false }
def FnLayersSaid : Prop := fnLayersRow.holds Try.pinned (OpenSpec.ofChange fnLayersSpec)

/-- ITS FALSE NEIGHBOUR: 'it returns false'. Refute it at one input. -/
def fnLayersWrong : ChangeSpec := { name := "fnLayers", fn := fun _ => fun
  | [d] => { results := [.lit (.bool false)], args := [d] }
  | _ => none }
def FnLayersWrongFalsely : Prop := fnLayersRow.holds Try.pinned (OpenSpec.ofChange fnLayersWrong)

/-- 'laws.FnExactIsKeymap': WHATEVER THE INPUT: true; the input reads as it did. -/
def fnExactIsKeymapSpec : ChangeSpec := { name := "fnExactIsKeymap", fn := fun _ => fun
  | [d] => { results := [.lit (.bool true)], args := [d] }
  | _ => none }
def fnExactIsKeymapRow : OpenClaim := { program := "ytleheibpgngmiaa", sum := "2f1b514a604bbfe618329728f50f313a64a2ed1305e130f0452a1b4584f3d374", func := "loop.example/g03414/laws.FnExactIsKeymap", spec := "fnExactIsKeymap", apart := false }
def FnExactIsKeymapSaid : Prop := fnExactIsKeymapRow.holds Try.pinned (OpenSpec.ofChange fnExactIsKeymapSpec)

/-- ITS FALSE NEIGHBOUR: 'it returns false'. Refute it at one input. -/
def fnExactIsKeymapWrong : ChangeSpec := { name := "fnExactIsKeymap", fn := fun _ => fun
  | [d] => { results := [.lit (.bool false)], args := [d] }
  | _ => none }
def FnExactIsKeymapWrongFalsely : Prop := fnExactIsKeymapRow.holds Try.pinned (OpenSpec.ofChange fnExactIsKeymapWrong)

/-- 'laws.FnExactLayerAt': WHATEVER THE INPUT: true; the input reads as it did. -/
def fnExactLayerAtSpec : ChangeSpec := { name := "fnExactLayerAt", fn := fun _ => fun
  | [d1, d2, d3] => { results := [.lit (.bool true)], args := [d1, d2, d3] }
  | _ => none }
def fnExactLayerAtRow : OpenClaim := { program := "ytleheibpgngmiaa", sum := "2f1b514a604bbfe618329728f50f313a64a2ed1305e130f0452a1b4584f3d374", func := "loop.example/g03414/laws.FnExactLayerAt", spec := "fnExactLayerAt", apart := false }
def FnExactLayerAtSaid : Prop := fnExactLayerAtRow.holds Try.pinned (OpenSpec.ofChange fnExactLayerAtSpec)

/-- ITS FALSE NEIGHBOUR: 'it returns false'. Refute it at one input. -/
def fnExactLayerAtWrong : ChangeSpec := { name := "fnExactLayerAt", fn := fun _ => fun
  | [d1, d2, d3] => { results := [.lit (.bool false)], args := [d1, d2, d3] }
  | _ => none }
def FnExactLayerAtWrongFalsely : Prop := fnExactLayerAtRow.holds Try.pinned (OpenSpec.ofChange fnExactLayerAtWrong)

/-- 'laws.FnExactActionAt': WHATEVER THE INPUT: true; the input reads as it did. -/
def fnExactActionAtSpec : ChangeSpec := { name := "fnExactActionAt", fn := fun _ => fun
  | [d1, d2, d3] => { results := [.lit (.bool true)], args := [d1, d2, d3] }
  | _ => none }
def fnExactActionAtRow : OpenClaim := { program := "ytleheibpgngmiaa", sum := "2f1b514a604bbfe618329728f50f313a64a2ed1305e130f0452a1b4584f3d374", func := "loop.example/g03414/laws.FnExactActionAt", spec := "fnExactActionAt", apart := false }
def FnExactActionAtSaid : Prop := fnExactActionAtRow.holds Try.pinned (OpenSpec.ofChange fnExactActionAtSpec)

/-- ITS FALSE NEIGHBOUR: 'it returns false'. Refute it at one input. -/
def fnExactActionAtWrong : ChangeSpec := { name := "fnExactActionAt", fn := fun _ => fun
  | [d1, d2, d3] => { results := [.lit (.bool false)], args := [d1, d2, d3] }
  | _ => none }
def FnExactActionAtWrongFalsely : Prop := fnExactActionAtRow.holds Try.pinned (OpenSpec.ofChange fnExactActionAtWrong)

/-- 'laws.FnExactSetAction': WHATEVER THE INPUT: true; the input reads as it did. -/
def fnExactSetActionSpec : ChangeSpec := { name := "fnExactSetAction", fn := fun _ => fun
  | [d1, d2, d3, d4] => { results := [.lit (.bool true)], args := [d1, d2, d3, d4] }
  | _ => none }
def fnExactSetActionRow : OpenClaim := { program := "ytleheibpgngmiaa", sum := "2f1b514a604bbfe618329728f50f313a64a2ed1305e130f0452a1b4584f3d374", func := "loop.example/g03414/laws.FnExactSetAction", spec := "fnExactSetAction", apart := false }
def FnExactSetActionSaid : Prop := fnExactSetActionRow.holds Try.pinned (OpenSpec.ofChange fnExactSetActionSpec)

/-- ITS FALSE NEIGHBOUR: 'it returns false'. Refute it at one input. -/
def fnExactSetActionWrong : ChangeSpec := { name := "fnExactSetAction", fn := fun _ => fun
  | [d1, d2, d3, d4] => { results := [.lit (.bool false)], args := [d1, d2, d3, d4] }
  | _ => none }
def FnExactSetActionWrongFalsely : Prop := fnExactSetActionRow.holds Try.pinned (OpenSpec.ofChange fnExactSetActionWrong)

/-- 'laws.FnExactPackAction': WHATEVER THE INPUT: true; the input reads as it did. -/
def fnExactPackActionSpec : ChangeSpec := { name := "fnExactPackAction", fn := fun _ => fun
  | [d] => { results := [.lit (.bool true)], args := [d] }
  | _ => none }
def fnExactPackActionRow : OpenClaim := { program := "ytleheibpgngmiaa", sum := "2f1b514a604bbfe618329728f50f313a64a2ed1305e130f0452a1b4584f3d374", func := "loop.example/g03414/laws.FnExactPackAction", spec := "fnExactPackAction", apart := false }
def FnExactPackActionSaid : Prop := fnExactPackActionRow.holds Try.pinned (OpenSpec.ofChange fnExactPackActionSpec)

/-- ITS FALSE NEIGHBOUR: 'it returns false'. Refute it at one input. -/
def fnExactPackActionWrong : ChangeSpec := { name := "fnExactPackAction", fn := fun _ => fun
  | [d] => { results := [.lit (.bool false)], args := [d] }
  | _ => none }
def FnExactPackActionWrongFalsely : Prop := fnExactPackActionRow.holds Try.pinned (OpenSpec.ofChange fnExactPackActionWrong)

/-- 'laws.FnExactUnpackAction': WHATEVER THE INPUT: true; the input reads as it did. -/
def fnExactUnpackActionSpec : ChangeSpec := { name := "fnExactUnpackAction", fn := fun _ => fun
  | [d] => { results := [.lit (.bool true)], args := [d] }
  | _ => none }
def fnExactUnpackActionRow : OpenClaim := { program := "ytleheibpgngmiaa", sum := "2f1b514a604bbfe618329728f50f313a64a2ed1305e130f0452a1b4584f3d374", func := "loop.example/g03414/laws.FnExactUnpackAction", spec := "fnExactUnpackAction", apart := false }
def FnExactUnpackActionSaid : Prop := fnExactUnpackActionRow.holds Try.pinned (OpenSpec.ofChange fnExactUnpackActionSpec)

/-- ITS FALSE NEIGHBOUR: 'it returns false'. Refute it at one input. -/
def fnExactUnpackActionWrong : ChangeSpec := { name := "fnExactUnpackAction", fn := fun _ => fun
  | [d] => { results := [.lit (.bool false)], args := [d] }
  | _ => none }
def FnExactUnpackActionWrongFalsely : Prop := fnExactUnpackActionRow.holds Try.pinned (OpenSpec.ofChange fnExactUnpackActionWrong)

/-- 'laws.FnExactPackKeymap': WHATEVER THE INPUT: true; the input reads as it did. -/
def fnExactPackKeymapSpec : ChangeSpec := { name := "fnExactPackKeymap", fn := fun _ => fun
  | [d] => { results := [.lit (.bool true)], args := [d] }
  | _ => none }
def fnExactPackKeymapRow : OpenClaim := { program := "ytleheibpgngmiaa", sum := "2f1b514a604bbfe618329728f50f313a64a2ed1305e130f0452a1b4584f3d374", func := "loop.example/g03414/laws.FnExactPackKeymap", spec := "fnExactPackKeymap", apart := false }
def FnExactPackKeymapSaid : Prop := fnExactPackKeymapRow.holds Try.pinned (OpenSpec.ofChange fnExactPackKeymapSpec)

/-- ITS FALSE NEIGHBOUR: 'it returns false'. Refute it at one input. -/
def fnExactPackKeymapWrong : ChangeSpec := { name := "fnExactPackKeymap", fn := fun _ => fun
  | [d] => { results := [.lit (.bool false)], args := [d] }
  | _ => none }
def FnExactPackKeymapWrongFalsely : Prop := fnExactPackKeymapRow.holds Try.pinned (OpenSpec.ofChange fnExactPackKeymapWrong)

/-- 'laws.FnExactUnpackKeymap': WHATEVER THE INPUT: true; the input reads as it did. -/
def fnExactUnpackKeymapSpec : ChangeSpec := { name := "fnExactUnpackKeymap", fn := fun _ => fun
  | [d] => { results := [.lit (.bool true)], args := [d] }
  | _ => none }
def fnExactUnpackKeymapRow : OpenClaim := { program := "ytleheibpgngmiaa", sum := "2f1b514a604bbfe618329728f50f313a64a2ed1305e130f0452a1b4584f3d374", func := "loop.example/g03414/laws.FnExactUnpackKeymap", spec := "fnExactUnpackKeymap", apart := false }
def FnExactUnpackKeymapSaid : Prop := fnExactUnpackKeymapRow.holds Try.pinned (OpenSpec.ofChange fnExactUnpackKeymapSpec)

/-- ITS FALSE NEIGHBOUR: 'it returns false'. Refute it at one input. -/
def fnExactUnpackKeymapWrong : ChangeSpec := { name := "fnExactUnpackKeymap", fn := fun _ => fun
  | [d] => { results := [.lit (.bool false)], args := [d] }
  | _ => none }
def FnExactUnpackKeymapWrongFalsely : Prop := fnExactUnpackKeymapRow.holds Try.pinned (OpenSpec.ofChange fnExactUnpackKeymapWrong)

/- THE SECOND FORM. 'bulk': how many values and letters a reading holds, each counted each time it is reached (what is shared counts as often as it is met; a slice's spare places count too). A statement '..UptoSaid' is the law's where the arguments, and the package variables that the reading takes, are together of bulk at most 1048576: NARROWER than '..Said'. Prove '..Said' where nothing that the law and all that it calls make is longer than what came in: it says more and counts as full. Else prove '..UptoSaid'. A law counts once. -/
mutual
def uptoBulk {H : Type} : DataW H → Nat
  | .lit (.string bytes) => bytes.length + 1
  | .lit _ => 1
  | .nil => 1
  | .ptr d => uptoBulk d + 1
  | .slice elems spare => uptoBulkAll elems + uptoBulkAll spare + 1
  | .agg parts => uptoBulkAll parts + 1
  | .iface _ d => uptoBulk d + 1
  | .map entries => uptoBulkEntries entries + 1
  | .held _ => 1
def uptoBulkAll {H : Type} : List (DataW H) → Nat
  | [] => 0
  | d :: r => uptoBulk d + uptoBulkAll r
def uptoBulkEntries {H : Type} : List (Lit × DataW H) → Nat
  | [] => 0
  | x :: r => uptoBulkEntry x + uptoBulkEntries r
def uptoBulkEntry {H : Type} : Lit × DataW H → Nat
  | (.string bytes, d) => bytes.length + uptoBulk d + 1
  | (_, d) => uptoBulk d + 1
 end
def uptoSmall : (H : Type) → List (DataW H) → Bool := fun _ ds => decide (uptoBulkAll ds ≤ 1048576)
def OpenSpec.upto (s : _root_.Go.ChangeSpec) : _root_.Go.OpenSpec := { _root_.Go.OpenSpec.ofChange s with cond := some uptoSmall }

/-- 'laws.FnLayers', WHERE WHAT IT READS IS OF BULK AT MOST 1048576: true; the input reads as it did. -/
def fnLayersUptoRow : OpenClaim := { program := "ytleheibpgngmiaa", sum := "2f1b514a604bbfe618329728f50f313a64a2ed1305e130f0452a1b4584f3d374", func := "loop.example/g03414/laws.FnLayers", spec := "fnLayers", apart := false, narrowed := true }
def FnLayersUptoSaid : Prop := fnLayersUptoRow.holds Try.pinned (OpenSpec.upto fnLayersSpec)

/-- 'laws.FnExactIsKeymap', WHERE WHAT IT READS IS OF BULK AT MOST 1048576: true; the input reads as it did. -/
def fnExactIsKeymapUptoRow : OpenClaim := { program := "ytleheibpgngmiaa", sum := "2f1b514a604bbfe618329728f50f313a64a2ed1305e130f0452a1b4584f3d374", func := "loop.example/g03414/laws.FnExactIsKeymap", spec := "fnExactIsKeymap", apart := false, narrowed := true }
def FnExactIsKeymapUptoSaid : Prop := fnExactIsKeymapUptoRow.holds Try.pinned (OpenSpec.upto fnExactIsKeymapSpec)

/-- 'laws.FnExactLayerAt', WHERE WHAT IT READS IS OF BULK AT MOST 1048576: true; the input reads as it did. -/
def fnExactLayerAtUptoRow : OpenClaim := { program := "ytleheibpgngmiaa", sum := "2f1b514a604bbfe618329728f50f313a64a2ed1305e130f0452a1b4584f3d374", func := "loop.example/g03414/laws.FnExactLayerAt", spec := "fnExactLayerAt", apart := false, narrowed := true }
def FnExactLayerAtUptoSaid : Prop := fnExactLayerAtUptoRow.holds Try.pinned (OpenSpec.upto fnExactLayerAtSpec)

/-- 'laws.FnExactActionAt', WHERE WHAT IT READS IS OF BULK AT MOST 1048576: true; the input reads as it did. -/
def fnExactActionAtUptoRow : OpenClaim := { program := "ytleheibpgngmiaa", sum := "2f1b514a604bbfe618329728f50f313a64a2ed1305e130f0452a1b4584f3d374", func := "loop.example/g03414/laws.FnExactActionAt", spec := "fnExactActionAt", apart := false, narrowed := true }
def FnExactActionAtUptoSaid : Prop := fnExactActionAtUptoRow.holds Try.pinned (OpenSpec.upto fnExactActionAtSpec)

/-- 'laws.FnExactSetAction', WHERE WHAT IT READS IS OF BULK AT MOST 1048576: true; the input reads as it did. -/
def fnExactSetActionUptoRow : OpenClaim := { program := "ytleheibpgngmiaa", sum := "2f1b514a604bbfe618329728f50f313a64a2ed1305e130f0452a1b4584f3d374", func := "loop.example/g03414/laws.FnExactSetAction", spec := "fnExactSetAction", apart := false, narrowed := true }
def FnExactSetActionUptoSaid : Prop := fnExactSetActionUptoRow.holds Try.pinned (OpenSpec.upto fnExactSetActionSpec)

/-- 'laws.FnExactPackAction', WHERE WHAT IT READS IS OF BULK AT MOST 1048576: true; the input reads as it did. -/
def fnExactPackActionUptoRow : OpenClaim := { program := "ytleheibpgngmiaa", sum := "2f1b514a604bbfe618329728f50f313a64a2ed1305e130f0452a1b4584f3d374", func := "loop.example/g03414/laws.FnExactPackAction", spec := "fnExactPackAction", apart := false, narrowed := true }
def FnExactPackActionUptoSaid : Prop := fnExactPackActionUptoRow.holds Try.pinned (OpenSpec.upto fnExactPackActionSpec)

/-- 'laws.FnExactUnpackAction', WHERE WHAT IT READS IS OF BULK AT MOST 1048576: true; the input reads as it did. -/
def fnExactUnpackActionUptoRow : OpenClaim := { program := "ytleheibpgngmiaa", sum := "2f1b514a604bbfe618329728f50f313a64a2ed1305e130f0452a1b4584f3d374", func := "loop.example/g03414/laws.FnExactUnpackAction", spec := "fnExactUnpackAction", apart := false, narrowed := true }
def FnExactUnpackActionUptoSaid : Prop := fnExactUnpackActionUptoRow.holds Try.pinned (OpenSpec.upto fnExactUnpackActionSpec)

/-- 'laws.FnExactPackKeymap', WHERE WHAT IT READS IS OF BULK AT MOST 1048576: true; the input reads as it did. -/
def fnExactPackKeymapUptoRow : OpenClaim := { program := "ytleheibpgngmiaa", sum := "2f1b514a604bbfe618329728f50f313a64a2ed1305e130f0452a1b4584f3d374", func := "loop.example/g03414/laws.FnExactPackKeymap", spec := "fnExactPackKeymap", apart := false, narrowed := true }
def FnExactPackKeymapUptoSaid : Prop := fnExactPackKeymapUptoRow.holds Try.pinned (OpenSpec.upto fnExactPackKeymapSpec)

/-- 'laws.FnExactUnpackKeymap', WHERE WHAT IT READS IS OF BULK AT MOST 1048576: true; the input reads as it did. -/
def fnExactUnpackKeymapUptoRow : OpenClaim := { program := "ytleheibpgngmiaa", sum := "2f1b514a604bbfe618329728f50f313a64a2ed1305e130f0452a1b4584f3d374", func := "loop.example/g03414/laws.FnExactUnpackKeymap", spec := "fnExactUnpackKeymap", apart := false, narrowed := true }
def FnExactUnpackKeymapUptoSaid : Prop := fnExactUnpackKeymapUptoRow.holds Try.pinned (OpenSpec.upto fnExactUnpackKeymapSpec)

end Rows
end Go.Proofs.Ytleheibpgngmiaa
