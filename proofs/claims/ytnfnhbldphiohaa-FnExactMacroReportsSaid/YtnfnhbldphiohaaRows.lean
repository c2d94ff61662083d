/-
  No cell of these rows narrows 'for every input' (looked for: loops, veiled, ifaces, maps, wideKeys, modest, calm, conditions, laid).
  DERIVED. THE GIVEN ROWS OF THIS SEAT. 2 by the template 'for every input the law returns true; each argument reads behind the call as it read before'; 0 by the template 'total and deterministic' (their statements: YtnfnhbldphiohaaTotals.lean).
  GIVEN WITH THE SEED: the statements are not yours to turn. If you find one false, say at which input.
  Laid BY PROGRAM, IN A SANDBOX (cutbox-rows.mjs): the forced cells as the released guide's own fill.sh prints them over the translation f187279c2e103152… (all of the seat's roots in one cut). By AI agents, Wed Nov 11 2026. No macro, syntax, notation, axiom, sorry.
-/
import Derived.Test.YtnfnhbldphiohaaChecked
import GoSem.Claim
import GoSem.ClaimJoined
import GoSem.ClaimMapViews
import Derived.JoinedTies
import Derived.KernelRfl
namespace Go.Proofs.Ytnfnhbldphiohaa
/- THE CELL 'sum', in the pinned program and in every row, IS THE sha256 OF THE DUMP (.gsa) THAT YtnfnhbldphiohaaProg.lean LOADS. Nothing in Lean hashes anything: it is a label: what it is worth is what the hold of that sum in a sandbox is worth. -/
noncomputable def Try.pinned : Pinned := { name := "ytnfnhbldphiohaa", sum := "f187279c2e103152f789ea1f9e5f6ea51cca2a17143218194cda2cb7bb279de2", checked := Try.checked }
namespace Rows
def none {H : Type} : Left H := { results := [], args := [] }

/-- 'laws.FnExactIsMacro': WHATEVER THE INPUT: true; the input reads as it did. -/
def fnExactIsMacroSpec : ChangeSpec := { name := "fnExactIsMacro", fn := fun _ => fun
  | [d] => { results := [.lit (.bool true)], args := [d] }
  | _ => none }
def fnExactIsMacroRow : OpenClaim := { program := "ytnfnhbldphiohaa", sum := "f187279c2e103152f789ea1f9e5f6ea51cca2a17143218194cda2cb7bb279de2", func := "loop.example/g03414/laws.FnExactIsMacro", spec := "fnExactIsMacro", unfollowed := true, recurses := true, apart := false }
def FnExactIsMacroSaid : Prop := fnExactIsMacroRow.holds Try.pinned (OpenSpec.ofChange fnExactIsMacroSpec)

/-- ITS FALSE NEIGHBOUR: 'it returns false'. Refute it at one input. -/
def fnExactIsMacroWrong : ChangeSpec := { name := "fnExactIsMacro", fn := fun _ => fun
  | [d] => { results := [.lit (.bool false)], args := [d] }
  | _ => none }
def FnExactIsMacroWrongFalsely : Prop := fnExactIsMacroRow.holds Try.pinned (OpenSpec.ofChange fnExactIsMacroWrong)

/-- 'laws.FnExactMacroReports': WHATEVER THE INPUT: true; the input reads as it did. -/
def fnExactMacroReportsSpec : ChangeSpec := { name := "fnExactMacroReports", fn := fun _ => fun
  | [d1, d2] => { results := [.lit (.bool true)], args := [d1, d2] }
  | _ => none }
def fnExactMacroReportsRow : OpenClaim := { program := "ytnfnhbldphiohaa", sum := "f187279c2e103152f789ea1f9e5f6ea51cca2a17143218194cda2cb7bb279de2", func := "loop.example/g03414/laws.FnExactMacroReports", spec := "fnExactMacroReports", unfollowed := true, recurses := true, apart := false }
def FnExactMacroReportsSaid : Prop := fnExactMacroReportsRow.holds Try.pinned (OpenSpec.ofChange fnExactMacroReportsSpec)

/-- ITS FALSE NEIGHBOUR: 'it returns false'. Refute it at one input. -/
def fnExactMacroReportsWrong : ChangeSpec := { name := "fnExactMacroReports", fn := fun _ => fun
  | [d1, d2] => { results := [.lit (.bool false)], args := [d1, d2] }
  | _ => none }
def FnExactMacroReportsWrongFalsely : Prop := fnExactMacroReportsRow.holds Try.pinned (OpenSpec.ofChange fnExactMacroReportsWrong)

/- THE SECOND FORM. 'bulk': how many values and letters a reading holds, each counted each time it is reached (what is shared counts as often as it is met; a slice's spare places count too). A statement '..UptoSaid' is the law's where the arguments, and the package variables that the reading takes, are together of bulk at most 1048576: NARROWER than '..Said'. Prove '..Said' where nothing that the law and all that it calls make is longer than what came in: it says more and counts as full. Else prove '..UptoSaid'. A law counts once. -/
mutual
def uptoBulk {H : Type} : DataW H → Nat
  | .lit (.string bytes) => bytes.length + 1
  | .lit _ => 1
  | .nil => 1
  | .ptr d => uptoBulk d + 1
  | .slice elems spare => uptoBulkAll elems + uptoBulkAll spare + 1
  | .agg parts => uptoBulkAll parts + 1
  | .iface _ d => uptoBulk d + 1
  | .map entries => uptoBulkEntries entries + 1
  | .held _ => 1
def uptoBulkAll {H : Type} : List (DataW H) → Nat
  | [] => 0
  | d :: r => uptoBulk d + uptoBulkAll r
def uptoBulkEntries {H : Type} : List (Lit × DataW H) → Nat
  | [] => 0
  | x :: r => uptoBulkEntry x + uptoBulkEntries r
def uptoBulkEntry {H : Type} : Lit × DataW H → Nat
  | (.string bytes, d) => bytes.length + uptoBulk d + 1
  | (_, d) => uptoBulk d + 1
 end
def uptoSmall : (H : Type) → List (DataW H) → Bool := fun _ ds => decide (uptoBulkAll ds ≤ 1048576)
def OpenSpec.upto (s : _root_.Go.ChangeSpec) : _root_.Go.OpenSpec := { _root_.Go.OpenSpec.ofChange s with cond := some uptoSmall }

/-- 'laws.FnExactIsMacro', WHERE WHAT IT READS IS OF BULK AT MOST 1048576: true; the input reads as it did. -/
def fnExactIsMacroUptoRow : OpenClaim := { program := "ytnfnhbldphiohaa", sum := "f187279c2e103152f789ea1f9e5f6ea51cca2a17143218194cda2cb7bb279de2", func := "loop.example/g03414/laws.FnExactIsMacro", spec := "fnExactIsMacro", unfollowed := true, recurses := true, apart := false, narrowed := true }
def FnExactIsMacroUptoSaid : Prop := fnExactIsMacroUptoRow.holds Try.pinned (OpenSpec.upto fnExactIsMacroSpec)

/-- 'laws.FnExactMacroReports', WHERE WHAT IT READS IS OF BULK AT MOST 1048576: true; the input reads as it did. -/
def fnExactMacroReportsUptoRow : OpenClaim := { program := "ytnfnhbldphiohaa", sum := "f187279c2e103152f789ea1f9e5f6ea51cca2a17143218194cda2cb7bb279de2", func := "loop.example/g03414/laws.FnExactMacroReports", spec := "fnExactMacroReports", unfollowed := true, recurses := true, apart := false, narrowed := true }
def FnExactMacroReportsUptoSaid : Prop := fnExactMacroReportsUptoRow.holds Try.pinned (OpenSpec.upto fnExactMacroReportsSpec)

end Rows
end Go.Proofs.Ytnfnhbldphiohaa
