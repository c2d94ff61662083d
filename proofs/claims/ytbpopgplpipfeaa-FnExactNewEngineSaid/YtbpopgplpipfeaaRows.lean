/-
  No cell of these rows narrows 'for every input' (looked for: loops, veiled, ifaces, maps, wideKeys, modest, calm, conditions, laid).
  DERIVED. THE GIVEN ROWS OF THIS SEAT. 5 by the template 'for every input the law returns true; each argument reads behind the call as it read before'; 0 by the template 'total and deterministic' (their statements: YtbpopgplpipfeaaTotals.lean).
  GIVEN WITH THE SEED: the statements are not yours to turn. If you find one false, say at which input.
  Laid BY PROGRAM, IN A SANDBOX (cutbox-rows.mjs): the forced cells as the released guide's own fill.sh prints them over the translation ca3cfc88f6990710… (all of the seat's roots in one cut). By AI agents, Wed Nov 11 2026. No macro, syntax, notation, axiom, sorry.
-/
import Derived.Test.YtbpopgplpipfeaaChecked
import GoSem.Claim
import GoSem.ClaimJoined
import GoSem.ClaimMapViews
import Derived.JoinedTies
import Derived.KernelRfl
namespace Go.Proofs.Ytbpopgplpipfeaa
/- THE CELL 'sum', in the pinned program and in every row, IS THE sha256 OF THE DUMP (.gsa) THAT YtbpopgplpipfeaaProg.lean LOADS. Nothing in Lean hashes anything: it is a label: what it is worth is what the hold of that sum in a sandbox is worth. -/
noncomputable def Try.pinned : Pinned := { name := "ytbpopgplpipfeaa", sum := "ca3cfc88f6990710509e8977e361d6c442f885c9b1ab666687a4a045736254ba", checked := Try.checked }
namespace Rows
def none {H : Type} : Left H := { results := [], args := [] }

/-- 'laws.FnNothingStays': WHATEVER THE INPUT: true; the input reads as it did. -/
def fnNothingStaysSpec : ChangeSpec := { name := "fnNothingStays", fn := fun _ => fun
  | [d] => { results := [.lit (.bool true)], args := [d] }
  | _ => none }
def fnNothingStaysRow : OpenClaim := { program := "ytbpopgplpipfeaa", sum := "ca3cfc88f6990710509e8977e361d6c442f885c9b1ab666687a4a045736254ba", func := "loop.example/g03414/laws.FnNothingStays", spec := "fnNothingStays", unfollowed := true, recurses := true, apart := false }
def FnNothingStaysSaid : Prop := fnNothingStaysRow.holds Try.pinned (OpenSpec.ofChange fnNothingStaysSpec)

/-- ITS FALSE NEIGHBOUR: 'it returns false'. Refute it at one input. -/
def fnNothingStaysWrong : ChangeSpec := { name := "fnNothingStays", fn := fun _ => fun
  | [d] => { results := [.lit (.bool false)], args := [d] }
  | _ => none }
def FnNothingStaysWrongFalsely : Prop := fnNothingStaysRow.holds Try.pinned (OpenSpec.ofChange fnNothingStaysWrong)

/-- 'laws.FnExactIsEngine': WHATEVER THE INPUT: true; the input reads as it did. -/
def fnExactIsEngineSpec : ChangeSpec := { name := "fnExactIsEngine", fn := fun _ => fun
  | [d] => { results := [.lit (.bool true)], args := [d] }
  | _ => none }
def fnExactIsEngineRow : OpenClaim := { program := "ytbpopgplpipfeaa", sum := "ca3cfc88f6990710509e8977e361d6c442f885c9b1ab666687a4a045736254ba", func := "loop.example/g03414/laws.FnExactIsEngine", spec := "fnExactIsEngine", unfollowed := true, recurses := true, apart := false }
def FnExactIsEngineSaid : Prop := fnExactIsEngineRow.holds Try.pinned (OpenSpec.ofChange fnExactIsEngineSpec)

/-- ITS FALSE NEIGHBOUR: 'it returns false'. Refute it at one input. -/
def fnExactIsEngineWrong : ChangeSpec := { name := "fnExactIsEngine", fn := fun _ => fun
  | [d] => { results := [.lit (.bool false)], args := [d] }
  | _ => none }
def FnExactIsEngineWrongFalsely : Prop := fnExactIsEngineRow.holds Try.pinned (OpenSpec.ofChange fnExactIsEngineWrong)

/-- 'laws.FnExactNewEngine': WHATEVER THE INPUT: true; the input reads as it did. -/
def fnExactNewEngineSpec : ChangeSpec := { name := "fnExactNewEngine", fn := fun _ => fun
  | [d1, d2] => { results := [.lit (.bool true)], args := [d1, d2] }
  | _ => none }
def fnExactNewEngineRow : OpenClaim := { program := "ytbpopgplpipfeaa", sum := "ca3cfc88f6990710509e8977e361d6c442f885c9b1ab666687a4a045736254ba", func := "loop.example/g03414/laws.FnExactNewEngine", spec := "fnExactNewEngine", unfollowed := true, recurses := true, apart := false }
def FnExactNewEngineSaid : Prop := fnExactNewEngineRow.holds Try.pinned (OpenSpec.ofChange fnExactNewEngineSpec)

/-- ITS FALSE NEIGHBOUR: 'it returns false'. Refute it at one input. -/
def fnExactNewEngineWrong : ChangeSpec := { name := "fnExactNewEngine", fn := fun _ => fun
  | [d1, d2] => { results := [.lit (.bool false)], args := [d1, d2] }
  | _ => none }
def FnExactNewEngineWrongFalsely : Prop := fnExactNewEngineRow.holds Try.pinned (OpenSpec.ofChange fnExactNewEngineWrong)

/-- 'laws.FnExactIsWordCode': WHATEVER THE INPUT: true; the input reads as it did. -/
def fnExactIsWordCodeSpec : ChangeSpec := { name := "fnExactIsWordCode", fn := fun _ => fun
  | [d] => { results := [.lit (.bool true)], args := [d] }
  | _ => none }
def fnExactIsWordCodeRow : OpenClaim := { program := "ytbpopgplpipfeaa", sum := "ca3cfc88f6990710509e8977e361d6c442f885c9b1ab666687a4a045736254ba", func := "loop.example/g03414/laws.FnExactIsWordCode", spec := "fnExactIsWordCode", apart := false }
def FnExactIsWordCodeSaid : Prop := fnExactIsWordCodeRow.holds Try.pinned (OpenSpec.ofChange fnExactIsWordCodeSpec)

/-- ITS FALSE NEIGHBOUR: 'it returns false'. Refute it at one input. -/
def fnExactIsWordCodeWrong : ChangeSpec := { name := "fnExactIsWordCode", fn := fun _ => fun
  | [d] => { results := [.lit (.bool false)], args := [d] }
  | _ => none }
def FnExactIsWordCodeWrongFalsely : Prop := fnExactIsWordCodeRow.holds Try.pinned (OpenSpec.ofChange fnExactIsWordCodeWrong)

/-- 'laws.FnExactHeldAt': WHATEVER THE INPUT: true; the input reads as it did. -/
def fnExactHeldAtSpec : ChangeSpec := { name := "fnExactHeldAt", fn := fun _ => fun
  | [d1, d2] => { results := [.lit (.bool true)], args := [d1, d2] }
  | _ => none }
def fnExactHeldAtRow : OpenClaim := { program := "ytbpopgplpipfeaa", sum := "ca3cfc88f6990710509e8977e361d6c442f885c9b1ab666687a4a045736254ba", func := "loop.example/g03414/laws.FnExactHeldAt", spec := "fnExactHeldAt", unfollowed := true, recurses := true, apart := false }
def FnExactHeldAtSaid : Prop := fnExactHeldAtRow.holds Try.pinned (OpenSpec.ofChange fnExactHeldAtSpec)

/-- ITS FALSE NEIGHBOUR: 'it returns false'. Refute it at one input. -/
def fnExactHeldAtWrong : ChangeSpec := { name := "fnExactHeldAt", fn := fun _ => fun
  | [d1, d2] => { results := [.lit (.bool false)], args := [d1, d2] }
  | _ => none }
def FnExactHeldAtWrongFalsely : Prop := fnExactHeldAtRow.holds Try.pinned (OpenSpec.ofChange fnExactHeldAtWrong)

/- THE SECOND FORM. 'bulk': how many values and letters a reading holds, each counted each time it is reached (what is shared counts as often as it is met; a slice's spare places count too). A statement '..UptoSaid' is the law's where the arguments, and the package variables that the reading takes, are together of bulk at most 1048576: NARROWER than '..Said'. Prove '..Said' where nothing that the law and all that it calls make is longer than what came in: it says more and counts as full. Else prove '..UptoSaid'. A law counts once. -/
mutual
def uptoBulk {H : Type} : DataW H → Nat
  | .lit (.string bytes) => bytes.length + 1
  | .lit _ => 1
  | .nil => 1
  | .ptr d => uptoBulk d + 1
  | .slice elems spare => uptoBulkAll elems + uptoBulkAll spare + 1
  | .agg parts => uptoBulkAll parts + 1
  | .iface _ d => uptoBulk d + 1
  | .map entries => uptoBulkEntries entries + 1
  | .held _ => 1
def uptoBulkAll {H : Type} : List (DataW H) → Nat
  | [] => 0
  | d :: r => uptoBulk d + uptoBulkAll r
def uptoBulkEntries {H : Type} : List (Lit × DataW H) → Nat
  | [] => 0
  | x :: r => uptoBulkEntry x + uptoBulkEntries r
def uptoBulkEntry {H : Type} : Lit × DataW H → Nat
  | (.string bytes, d) => bytes.length + uptoBulk d + 1
  | (_, d) => uptoBulk d + 1
 end
def uptoSmall : (H : Type) → List (DataW H) → Bool := fun _ ds => decide (uptoBulkAll ds ≤ 1048576)
def OpenSpec.upto (s : _root_.Go.ChangeSpec) : _root_.Go.OpenSpec := { _root_.Go.OpenSpec.ofChange s with cond := some uptoSmall }

/-- 'laws.FnNothingStays', WHERE WHAT IT READS IS OF BULK AT MOST 1048576: true; the input reads as it did. -/
def fnNothingStaysUptoRow : OpenClaim := { program := "ytbpopgplpipfeaa", sum := "ca3cfc88f6990710509e8977e361d6c442f885c9b1ab666687a4a045736254ba", func := "loop.example/g03414/laws.FnNothingStays", spec := "fnNothingStays", unfollowed := true, recurses := true, apart := false, narrowed := true }
def FnNothingStaysUptoSaid : Prop := fnNothingStaysUptoRow.holds Try.pinned (OpenSpec.upto fnNothingStaysSpec)

/-- 'laws.FnExactIsEngine', WHERE WHAT IT READS IS OF BULK AT MOST 1048576: true; the input reads as it did. -/
def fnExactIsEngineUptoRow : OpenClaim := { program := "ytbpopgplpipfeaa", sum := "ca3cfc88f6990710509e8977e361d6c442f885c9b1ab666687a4a045736254ba", func := "loop.example/g03414/laws.FnExactIsEngine", spec := "fnExactIsEngine", unfollowed := true, recurses := true, apart := false, narrowed := true }
def FnExactIsEngineUptoSaid : Prop := fnExactIsEngineUptoRow.holds Try.pinned (OpenSpec.upto fnExactIsEngineSpec)

/-- 'laws.FnExactNewEngine', WHERE WHAT IT READS IS OF BULK AT MOST 1048576: true; the input reads as it did. -/
def fnExactNewEngineUptoRow : OpenClaim := { program := "ytbpopgplpipfeaa", sum := "ca3cfc88f6990710509e8977e361d6c442f885c9b1ab666687a4a045736254ba", func := "loop.example/g03414/laws.FnExactNewEngine", spec := "fnExactNewEngine", unfollowed := true, recurses := true, apart := false, narrowed := true }
def FnExactNewEngineUptoSaid : Prop := fnExactNewEngineUptoRow.holds Try.pinned (OpenSpec.upto fnExactNewEngineSpec)

/-- 'laws.FnExactIsWordCode', WHERE WHAT IT READS IS OF BULK AT MOST 1048576: true; the input reads as it did. -/
def fnExactIsWordCodeUptoRow : OpenClaim := { program := "ytbpopgplpipfeaa", sum := "ca3cfc88f6990710509e8977e361d6c442f885c9b1ab666687a4a045736254ba", func := "loop.example/g03414/laws.FnExactIsWordCode", spec := "fnExactIsWordCode", apart := false, narrowed := true }
def FnExactIsWordCodeUptoSaid : Prop := fnExactIsWordCodeUptoRow.holds Try.pinned (OpenSpec.upto fnExactIsWordCodeSpec)

/-- 'laws.FnExactHeldAt', WHERE WHAT IT READS IS OF BULK AT MOST 1048576: true; the input reads as it did. -/
def fnExactHeldAtUptoRow : OpenClaim := { program := "ytbpopgplpipfeaa", sum := "ca3cfc88f6990710509e8977e361d6c442f885c9b1ab666687a4a045736254ba", func := "loop.example/g03414/laws.FnExactHeldAt", spec := "fnExactHeldAt", unfollowed := true, recurses := true, apart := false, narrowed := true }
def FnExactHeldAtUptoSaid : Prop := fnExactHeldAtUptoRow.holds Try.pinned (OpenSpec.upto fnExactHeldAtSpec)

end Rows
end Go.Proofs.Ytbpopgplpipfeaa
