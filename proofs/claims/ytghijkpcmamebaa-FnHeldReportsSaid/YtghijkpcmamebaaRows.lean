/-
  No cell of these rows narrows 'for every input' (looked for: loops, veiled, ifaces, maps, wideKeys, modest, calm, conditions, laid).
  DERIVED. THE GIVEN ROWS OF THIS SEAT. 8 by the template 'for every input the law returns true; each argument reads behind the call as it read before'; 0 by the template 'total and deterministic' (their statements: YtghijkpcmamebaaTotals.lean).
  GIVEN WITH THE SEED: the statements are not yours to turn. If you find one false, say at which input.
  Laid BY PROGRAM, IN A SANDBOX (cutbox-rows.mjs): the forced cells as the released guide's own fill.sh prints them over the translation 00b61528221fe1b8… (all of the seat's roots in one cut). By AI agents, Wed Nov 11 2026. No macro, syntax, notation, axiom, sorry.
-/
import Derived.Test.YtghijkpcmamebaaChecked
import GoSem.Claim
import GoSem.ClaimJoined
import GoSem.ClaimMapViews
import Derived.JoinedTies
import Derived.KernelRfl
namespace Go.Proofs.Ytghijkpcmamebaa
/- THE CELL 'sum', in the pinned program and in every row, IS THE sha256 OF THE DUMP (.gsa) THAT YtghijkpcmamebaaProg.lean LOADS. Nothing in Lean hashes anything: it is a label: what it is worth is what the hold of that sum in a sandbox is worth. -/
noncomputable def Try.pinned : Pinned := { name := "ytghijkpcmamebaa", sum := "00b61528221fe1b879e43c335867777760955e40f5ef1b95fa4b7f30ccff7487", checked := Try.checked }
namespace Rows
def none {H : Type} : Left H := { results := [], args := [] }

/-- 'laws.FnHeldReports': WHATEVER THE INPUT: true; the input reads as it did. -/
def fnHeldReportsSpec : ChangeSpec := { name := "fnHeldReports", fn := fun _ => fun
  | [d] => { results := [.lit (.bool true)], args := [d] }
  | _ => none }
def fnHeldReportsRow : OpenClaim := { program := "ytghijkpcmamebaa", sum := "00b61528221fe1b879e43c335867777760955e40f5ef1b95fa4b7f30ccff7487", func := "loop.example/g03414/laws.FnHeldReports", spec := "fnHeldReports", apart := false }
def FnHeldReportsSaid : Prop := fnHeldReportsRow.holds Try.pinned (OpenSpec.ofChange fnHeldReportsSpec)

/-- ITS FALSE NEIGHBOUR: 'it returns false'. Refute it at one input. -/
def fnHeldReportsWrong : ChangeSpec := { name := "fnHeldReports", fn := fun _ => fun
  | [d] => { results := [.lit (.bool false)], args := [d] }
  | _ => none }
def FnHeldReportsWrongFalsely : Prop := fnHeldReportsRow.holds Try.pinned (OpenSpec.ofChange fnHeldReportsWrong)

/-- 'laws.FnExactIsHeld': WHATEVER THE INPUT: true; the input reads as it did. -/
def fnExactIsHeldSpec : ChangeSpec := { name := "fnExactIsHeld", fn := fun _ => fun
  | [d] => { results := [.lit (.bool true)], args := [d] }
  | _ => none }
def fnExactIsHeldRow : OpenClaim := { program := "ytghijkpcmamebaa", sum := "00b61528221fe1b879e43c335867777760955e40f5ef1b95fa4b7f30ccff7487", func := "loop.example/g03414/laws.FnExactIsHeld", spec := "fnExactIsHeld", apart := false }
def FnExactIsHeldSaid : Prop := fnExactIsHeldRow.holds Try.pinned (OpenSpec.ofChange fnExactIsHeldSpec)

/-- ITS FALSE NEIGHBOUR: 'it returns false'. Refute it at one input. -/
def fnExactIsHeldWrong : ChangeSpec := { name := "fnExactIsHeld", fn := fun _ => fun
  | [d] => { results := [.lit (.bool false)], args := [d] }
  | _ => none }
def FnExactIsHeldWrongFalsely : Prop := fnExactIsHeldRow.holds Try.pinned (OpenSpec.ofChange fnExactIsHeldWrong)

/-- 'laws.FnExactLayersOn': WHATEVER THE INPUT: true; the input reads as it did. -/
def fnExactLayersOnSpec : ChangeSpec := { name := "fnExactLayersOn", fn := fun _ => fun
  | [d1, d2] => { results := [.lit (.bool true)], args := [d1, d2] }
  | _ => none }
def fnExactLayersOnRow : OpenClaim := { program := "ytghijkpcmamebaa", sum := "00b61528221fe1b879e43c335867777760955e40f5ef1b95fa4b7f30ccff7487", func := "loop.example/g03414/laws.FnExactLayersOn", spec := "fnExactLayersOn", apart := false }
def FnExactLayersOnSaid : Prop := fnExactLayersOnRow.holds Try.pinned (OpenSpec.ofChange fnExactLayersOnSpec)

/-- ITS FALSE NEIGHBOUR: 'it returns false'. Refute it at one input. -/
def fnExactLayersOnWrong : ChangeSpec := { name := "fnExactLayersOn", fn := fun _ => fun
  | [d1, d2] => { results := [.lit (.bool false)], args := [d1, d2] }
  | _ => none }
def FnExactLayersOnWrongFalsely : Prop := fnExactLayersOnRow.holds Try.pinned (OpenSpec.ofChange fnExactLayersOnWrong)

/-- 'laws.FnExactReportOf': WHATEVER THE INPUT: true; the input reads as it did. -/
def fnExactReportOfSpec : ChangeSpec := { name := "fnExactReportOf", fn := fun _ => fun
  | [d] => { results := [.lit (.bool true)], args := [d] }
  | _ => none }
def fnExactReportOfRow : OpenClaim := { program := "ytghijkpcmamebaa", sum := "00b61528221fe1b879e43c335867777760955e40f5ef1b95fa4b7f30ccff7487", func := "loop.example/g03414/laws.FnExactReportOf", spec := "fnExactReportOf", apart := false }
def FnExactReportOfSaid : Prop := fnExactReportOfRow.holds Try.pinned (OpenSpec.ofChange fnExactReportOfSpec)

/-- ITS FALSE NEIGHBOUR: 'it returns false'. Refute it at one input. -/
def fnExactReportOfWrong : ChangeSpec := { name := "fnExactReportOf", fn := fun _ => fun
  | [d] => { results := [.lit (.bool false)], args := [d] }
  | _ => none }
def FnExactReportOfWrongFalsely : Prop := fnExactReportOfRow.holds Try.pinned (OpenSpec.ofChange fnExactReportOfWrong)

/-- 'laws.FnExactIsReport': WHATEVER THE INPUT: true; the input reads as it did. -/
def fnExactIsReportSpec : ChangeSpec := { name := "fnExactIsReport", fn := fun _ => fun
  | [d] => { results := [.lit (.bool true)], args := [d] }
  | _ => none }
def fnExactIsReportRow : OpenClaim := { program := "ytghijkpcmamebaa", sum := "00b61528221fe1b879e43c335867777760955e40f5ef1b95fa4b7f30ccff7487", func := "loop.example/g03414/laws.FnExactIsReport", spec := "fnExactIsReport", apart := false }
def FnExactIsReportSaid : Prop := fnExactIsReportRow.holds Try.pinned (OpenSpec.ofChange fnExactIsReportSpec)

/-- ITS FALSE NEIGHBOUR: 'it returns false'. Refute it at one input. -/
def fnExactIsReportWrong : ChangeSpec := { name := "fnExactIsReport", fn := fun _ => fun
  | [d] => { results := [.lit (.bool false)], args := [d] }
  | _ => none }
def FnExactIsReportWrongFalsely : Prop := fnExactIsReportRow.holds Try.pinned (OpenSpec.ofChange fnExactIsReportWrong)

/-- 'laws.FnExactSameReport': WHATEVER THE INPUT: true; the input reads as it did. -/
def fnExactSameReportSpec : ChangeSpec := { name := "fnExactSameReport", fn := fun _ => fun
  | [d1, d2] => { results := [.lit (.bool true)], args := [d1, d2] }
  | _ => none }
def fnExactSameReportRow : OpenClaim := { program := "ytghijkpcmamebaa", sum := "00b61528221fe1b879e43c335867777760955e40f5ef1b95fa4b7f30ccff7487", func := "loop.example/g03414/laws.FnExactSameReport", spec := "fnExactSameReport", apart := false }
def FnExactSameReportSaid : Prop := fnExactSameReportRow.holds Try.pinned (OpenSpec.ofChange fnExactSameReportSpec)

/-- ITS FALSE NEIGHBOUR: 'it returns false'. Refute it at one input. -/
def fnExactSameReportWrong : ChangeSpec := { name := "fnExactSameReport", fn := fun _ => fun
  | [d1, d2] => { results := [.lit (.bool false)], args := [d1, d2] }
  | _ => none }
def FnExactSameReportWrongFalsely : Prop := fnExactSameReportRow.holds Try.pinned (OpenSpec.ofChange fnExactSameReportWrong)

/-- 'laws.FnExactBitBytes': WHATEVER THE INPUT: true; the input reads as it did. -/
def fnExactBitBytesSpec : ChangeSpec := { name := "fnExactBitBytes", fn := fun _ => fun
  | [d] => { results := [.lit (.bool true)], args := [d] }
  | _ => none }
def fnExactBitBytesRow : OpenClaim := { program := "ytghijkpcmamebaa", sum := "00b61528221fe1b879e43c335867777760955e40f5ef1b95fa4b7f30ccff7487", func := "loop.example/g03414/laws.FnExactBitBytes", spec := "fnExactBitBytes", apart := false }
def FnExactBitBytesSaid : Prop := fnExactBitBytesRow.holds Try.pinned (OpenSpec.ofChange fnExactBitBytesSpec)

/-- ITS FALSE NEIGHBOUR: 'it returns false'. Refute it at one input. -/
def fnExactBitBytesWrong : ChangeSpec := { name := "fnExactBitBytes", fn := fun _ => fun
  | [d] => { results := [.lit (.bool false)], args := [d] }
  | _ => none }
def FnExactBitBytesWrongFalsely : Prop := fnExactBitBytesRow.holds Try.pinned (OpenSpec.ofChange fnExactBitBytesWrong)

/-- 'laws.FnExactReadBits': WHATEVER THE INPUT: true; the input reads as it did. -/
def fnExactReadBitsSpec : ChangeSpec := { name := "fnExactReadBits", fn := fun _ => fun
  | [d] => { results := [.lit (.bool true)], args := [d] }
  | _ => none }
def fnExactReadBitsRow : OpenClaim := { program := "ytghijkpcmamebaa", sum := "00b61528221fe1b879e43c335867777760955e40f5ef1b95fa4b7f30ccff7487", func := "loop.example/g03414/laws.FnExactReadBits", spec := "fnExactReadBits", apart := false }
def FnExactReadBitsSaid : Prop := fnExactReadBitsRow.holds Try.pinned (OpenSpec.ofChange fnExactReadBitsSpec)

/-- ITS FALSE NEIGHBOUR: 'it returns false'. Refute it at one input. -/
def fnExactReadBitsWrong : ChangeSpec := { name := "fnExactReadBits", fn := fun _ => fun
  | [d] => { results := [.lit (.bool false)], args := [d] }
  | _ => none }
def FnExactReadBitsWrongFalsely : Prop := fnExactReadBitsRow.holds Try.pinned (OpenSpec.ofChange fnExactReadBitsWrong)

/- THE SECOND FORM. 'bulk': how many values and letters a reading holds, each counted each time it is reached (what is shared counts as often as it is met; a slice's spare places count too). A statement '..UptoSaid' is the law's where the arguments, and the package variables that the reading takes, are together of bulk at most 1048576: NARROWER than '..Said'. Prove '..Said' where nothing that the law and all that it calls make is longer than what came in: it says more and counts as full. Else prove '..UptoSaid'. A law counts once. -/
mutual
def uptoBulk {H : Type} : DataW H → Nat
  | .lit (.string bytes) => bytes.length + 1
  | .lit _ => 1
  | .nil => 1
  | .ptr d => uptoBulk d + 1
  | .slice elems spare => uptoBulkAll elems + uptoBulkAll spare + 1
  | .agg parts => uptoBulkAll parts + 1
  | .iface _ d => uptoBulk d + 1
  | .map entries => uptoBulkEntries entries + 1
  | .held _ => 1
def uptoBulkAll {H : Type} : List (DataW H) → Nat
  | [] => 0
  | d :: r => uptoBulk d + uptoBulkAll r
def uptoBulkEntries {H : Type} : List (Lit × DataW H) → Nat
  | [] => 0
  | x :: r => uptoBulkEntry x + uptoBulkEntries r
def uptoBulkEntry {H : Type} : Lit × DataW H → Nat
  | (.string bytes, d) => bytes.length + uptoBulk d + 1
  | (_, d) => uptoBulk d + 1
 end
def uptoSmall : (H : Type) → List (DataW H) → Bool := fun _ ds => decide (uptoBulkAll ds ≤ 1048576)
def OpenSpec.upto (s : _root_.Go.ChangeSpec) : _root_.Go.OpenSpec := { _root_.Go.OpenSpec.ofChange s with cond := some uptoSmall }

/-- 'laws.FnHeldReports', WHERE WHAT IT READS IS OF BULK AT MOST 1048576: true; the input reads as it did. -/
def fnHeldReportsUptoRow : OpenClaim := { program := "ytghijkpcmamebaa", sum := "00b61528221fe1b879e43c335867777760955e40f5ef1b95fa4b7f30ccff7487", func := "loop.example/g03414/laws.FnHeldReports", spec := "fnHeldReports", apart := false, narrowed := true }
def FnHeldReportsUptoSaid : Prop := fnHeldReportsUptoRow.holds Try.pinned (OpenSpec.upto fnHeldReportsSpec)

/-- 'laws.FnExactIsHeld', WHERE WHAT IT READS IS OF BULK AT MOST 1048576: true; the input reads as it did. -/
def fnExactIsHeldUptoRow : OpenClaim := { program := "ytghijkpcmamebaa", sum := "00b61528221fe1b879e43c335867777760955e40f5ef1b95fa4b7f30ccff7487", func := "loop.example/g03414/laws.FnExactIsHeld", spec := "fnExactIsHeld", apart := false, narrowed := true }
def FnExactIsHeldUptoSaid : Prop := fnExactIsHeldUptoRow.holds Try.pinned (OpenSpec.upto fnExactIsHeldSpec)

/-- 'laws.FnExactLayersOn', WHERE WHAT IT READS IS OF BULK AT MOST 1048576: true; the input reads as it did. -/
def fnExactLayersOnUptoRow : OpenClaim := { program := "ytghijkpcmamebaa", sum := "00b61528221fe1b879e43c335867777760955e40f5ef1b95fa4b7f30ccff7487", func := "loop.example/g03414/laws.FnExactLayersOn", spec := "fnExactLayersOn", apart := false, narrowed := true }
def FnExactLayersOnUptoSaid : Prop := fnExactLayersOnUptoRow.holds Try.pinned (OpenSpec.upto fnExactLayersOnSpec)

/-- 'laws.FnExactReportOf', WHERE WHAT IT READS IS OF BULK AT MOST 1048576: true; the input reads as it did. -/
def fnExactReportOfUptoRow : OpenClaim := { program := "ytghijkpcmamebaa", sum := "00b61528221fe1b879e43c335867777760955e40f5ef1b95fa4b7f30ccff7487", func := "loop.example/g03414/laws.FnExactReportOf", spec := "fnExactReportOf", apart := false, narrowed := true }
def FnExactReportOfUptoSaid : Prop := fnExactReportOfUptoRow.holds Try.pinned (OpenSpec.upto fnExactReportOfSpec)

/-- 'laws.FnExactIsReport', WHERE WHAT IT READS IS OF BULK AT MOST 1048576: true; the input reads as it did. -/
def fnExactIsReportUptoRow : OpenClaim := { program := "ytghijkpcmamebaa", sum := "00b61528221fe1b879e43c335867777760955e40f5ef1b95fa4b7f30ccff7487", func := "loop.example/g03414/laws.FnExactIsReport", spec := "fnExactIsReport", apart := false, narrowed := true }
def FnExactIsReportUptoSaid : Prop := fnExactIsReportUptoRow.holds Try.pinned (OpenSpec.upto fnExactIsReportSpec)

/-- 'laws.FnExactSameReport', WHERE WHAT IT READS IS OF BULK AT MOST 1048576: true; the input reads as it did. -/
def fnExactSameReportUptoRow : OpenClaim := { program := "ytghijkpcmamebaa", sum := "00b61528221fe1b879e43c335867777760955e40f5ef1b95fa4b7f30ccff7487", func := "loop.example/g03414/laws.FnExactSameReport", spec := "fnExactSameReport", apart := false, narrowed := true }
def FnExactSameReportUptoSaid : Prop := fnExactSameReportUptoRow.holds Try.pinned (OpenSpec.upto fnExactSameReportSpec)

/-- 'laws.FnExactBitBytes', WHERE WHAT IT READS IS OF BULK AT MOST 1048576: true; the input reads as it did. -/
def fnExactBitBytesUptoRow : OpenClaim := { program := "ytghijkpcmamebaa", sum := "00b61528221fe1b879e43c335867777760955e40f5ef1b95fa4b7f30ccff7487", func := "loop.example/g03414/laws.FnExactBitBytes", spec := "fnExactBitBytes", apart := false, narrowed := true }
def FnExactBitBytesUptoSaid : Prop := fnExactBitBytesUptoRow.holds Try.pinned (OpenSpec.upto fnExactBitBytesSpec)

/-- 'laws.FnExactReadBits', WHERE WHAT IT READS IS OF BULK AT MOST 1048576: true; the input reads as it did. -/
def fnExactReadBitsUptoRow : OpenClaim := { program := "ytghijkpcmamebaa", sum := "00b61528221fe1b879e43c335867777760955e40f5ef1b95fa4b7f30ccff7487", func := "loop.example/g03414/laws.FnExactReadBits", spec := "fnExactReadBits", apart := false, narrowed := true }
def FnExactReadBitsUptoSaid : Prop := fnExactReadBitsUptoRow.holds Try.pinned (OpenSpec.upto fnExactReadBitsSpec)

end Rows
end Go.Proofs.Ytghijkpcmamebaa
