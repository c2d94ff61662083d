/-
  NARROWER THAN 'FOR EVERY INPUT', by the rows' own cells (each row's printed sentence says how): FnReports: laid · FnExactFormatReport: laid · FnExactParseReport: laid · FnExactBootBytes: laid · FnExactReadBoot: laid.
  DERIVED. THE GIVEN ROWS OF THIS SEAT. 5 by the template 'for every input the law returns true; each argument reads behind the call as it read before'; 0 by the template 'total and deterministic' (their statements: YtghijkpcmamebaaDoorTotals.lean).
  GIVEN WITH THE SEED: the statements are not yours to turn. If you find one false, say at which input.
  Laid BY PROGRAM, IN A SANDBOX (cutbox-rows.mjs): the forced cells as the released guide's own fill.sh prints them over the translation 0e8676258518fa5d… (all of the seat's roots in one cut). By AI agents, Wed Nov 11 2026. No macro, syntax, notation, axiom, sorry.
-/
import Derived.Test.YtghijkpcmamebaaDoorChecked
import GoSem.Claim
import GoSem.ClaimJoined
import GoSem.ClaimMapViews
import Derived.JoinedTies
import Derived.KernelRfl
namespace Go.Proofs.YtghijkpcmamebaaDoor
/- THE CELL 'sum', in the pinned program and in every row, IS THE sha256 OF THE DUMP (.gsa) THAT YtghijkpcmamebaaDoorProg.lean LOADS. Nothing in Lean hashes anything: it is a label: what it is worth is what the hold of that sum in a sandbox is worth. -/
noncomputable def Tryd.pinned : Pinned := { name := "ytghijkpcmamebaadoor", sum := "0e8676258518fa5d676e7c66585afeab57e01d1e6e46d7537aa17edb168bd359", checked := Tryd.checked }
namespace Rows
def none {H : Type} : Left H := { results := [], args := [] }

/- WHAT THE LISTED PACKAGE-LEVEL VARIABLES READ AS WHEN THE CALL BEGINS. Each datum BY PROGRAM (the guide's laid-datum.mjs) off the statement by which the dump's own 'gosem.cut.vars' lays the variable. In a bare row this is a premise. The card (YtghijkpcmamebaaDoorCards.lean) ties it to the program's text. -/
def laid_loop_example_g03414_impl_codeNames {H : Type} : DataW H := .agg [.lit (.string []), .lit (.string [97]), .lit (.string [98]), .lit (.string [99]), .lit (.string [100]), .lit (.string [101]), .lit (.string [102]), .lit (.string [103]), .lit (.string [104]), .lit (.string [105]), .lit (.string [106]), .lit (.string [107]), .lit (.string [108]), .lit (.string [109]), .lit (.string [110]), .lit (.string [111]), .lit (.string [112]), .lit (.string [113]), .lit (.string [114]), .lit (.string [115]), .lit (.string [116]), .lit (.string [117]), .lit (.string [118]), .lit (.string [119]), .lit (.string [120]), .lit (.string [121]), .lit (.string [122]), .lit (.string [49]), .lit (.string [50]), .lit (.string [51]), .lit (.string [52]), .lit (.string [53]), .lit (.string [54]), .lit (.string [55]), .lit (.string [56]), .lit (.string [57]), .lit (.string [48]), .lit (.string [101, 110, 116, 101, 114]), .lit (.string [101, 115, 99]), .lit (.string [98, 97, 99, 107]), .lit (.string [116, 97, 98]), .lit (.string [115, 112, 97, 99, 101]), .lit (.string [109, 105, 110, 117, 115]), .lit (.string [101, 113, 117, 97, 108]), .lit (.string [108, 101, 102, 116]), .lit (.string [114, 105, 103, 104, 116]), .lit (.string [117, 112]), .lit (.string [100, 111, 119, 110]), .lit (.string [102, 49]), .lit (.string [102, 50]), .lit (.string [102, 51]), .lit (.string [102, 52]), .lit (.string [102, 53]), .lit (.string [102, 54]), .lit (.string [102, 55]), .lit (.string [102, 56]), .lit (.string [102, 57])]
def laid_loop_example_g03414_impl_crowdedPlaces {H : Type} : DataW H := .agg [.lit (.int .u8 1), .lit (.int .u8 1), .lit (.int .u8 1), .lit (.int .u8 1), .lit (.int .u8 1), .lit (.int .u8 1)]

/-- 'laws.FnReports': WHATEVER THE INPUT: true; the input reads as it did. -/
def fnReportsSpec : ChangeSpec := { name := "fnReports", vars := ["loop.example/g03414/impl.codeNames", "loop.example/g03414/impl.crowdedPlaces"], fn := fun _ => fun
  | [d, g1, g2] => { results := [.lit (.bool true)], args := [d], vars := [g1, g2] }
  | _ => none }
def fnReportsRow : OpenClaim := { program := "ytghijkpcmamebaadoor", sum := "0e8676258518fa5d676e7c66585afeab57e01d1e6e46d7537aa17edb168bd359", func := "loop.example/g03414/laws.FnReports", spec := "fnReports", inPlace := ["internal/abi.NoEscape", "internal/bytealg.IndexByteString", "internal/bytealg.IndexString"], named := ["loop.example/g03414/impl.codeNames", "internal/bytealg.MaxLen", "loop.example/g03414/impl.crowdedPlaces"], apart := false, laid := [("loop.example/g03414/impl.codeNames", laid_loop_example_g03414_impl_codeNames), ("loop.example/g03414/impl.crowdedPlaces", laid_loop_example_g03414_impl_crowdedPlaces)] }
def FnReportsSaid : Prop := fnReportsRow.holds Tryd.pinned (OpenSpec.ofChange fnReportsSpec)

/-- ITS FALSE NEIGHBOUR: 'it returns false'. Refute it at one input. -/
def fnReportsWrong : ChangeSpec := { name := "fnReports", vars := ["loop.example/g03414/impl.codeNames", "loop.example/g03414/impl.crowdedPlaces"], fn := fun _ => fun
  | [d, g1, g2] => { results := [.lit (.bool false)], args := [d], vars := [g1, g2] }
  | _ => none }
def FnReportsWrongFalsely : Prop := fnReportsRow.holds Tryd.pinned (OpenSpec.ofChange fnReportsWrong)

/-- 'laws.FnExactFormatReport': WHATEVER THE INPUT: true; the input reads as it did. -/
def fnExactFormatReportSpec : ChangeSpec := { name := "fnExactFormatReport", vars := ["loop.example/g03414/impl.codeNames"], fn := fun _ => fun
  | [d, g1] => { results := [.lit (.bool true)], args := [d], vars := [g1] }
  | _ => none }
def fnExactFormatReportRow : OpenClaim := { program := "ytghijkpcmamebaadoor", sum := "0e8676258518fa5d676e7c66585afeab57e01d1e6e46d7537aa17edb168bd359", func := "loop.example/g03414/laws.FnExactFormatReport", spec := "fnExactFormatReport", inPlace := ["internal/abi.NoEscape"], named := ["loop.example/g03414/impl.codeNames"], apart := false, laid := [("loop.example/g03414/impl.codeNames", laid_loop_example_g03414_impl_codeNames)] }
def FnExactFormatReportSaid : Prop := fnExactFormatReportRow.holds Tryd.pinned (OpenSpec.ofChange fnExactFormatReportSpec)

/-- ITS FALSE NEIGHBOUR: 'it returns false'. Refute it at one input. -/
def fnExactFormatReportWrong : ChangeSpec := { name := "fnExactFormatReport", vars := ["loop.example/g03414/impl.codeNames"], fn := fun _ => fun
  | [d, g1] => { results := [.lit (.bool false)], args := [d], vars := [g1] }
  | _ => none }
def FnExactFormatReportWrongFalsely : Prop := fnExactFormatReportRow.holds Tryd.pinned (OpenSpec.ofChange fnExactFormatReportWrong)

/-- 'laws.FnExactParseReport': WHATEVER THE INPUT: true; the input reads as it did. -/
def fnExactParseReportSpec : ChangeSpec := { name := "fnExactParseReport", vars := ["loop.example/g03414/impl.codeNames"], fn := fun _ => fun
  | [d, g1] => { results := [.lit (.bool true)], args := [d], vars := [g1] }
  | _ => none }
def fnExactParseReportRow : OpenClaim := { program := "ytghijkpcmamebaadoor", sum := "0e8676258518fa5d676e7c66585afeab57e01d1e6e46d7537aa17edb168bd359", func := "loop.example/g03414/laws.FnExactParseReport", spec := "fnExactParseReport", inPlace := ["internal/bytealg.IndexByteString", "internal/bytealg.IndexString", "internal/abi.NoEscape"], named := ["internal/bytealg.MaxLen", "loop.example/g03414/impl.codeNames"], apart := false, laid := [("loop.example/g03414/impl.codeNames", laid_loop_example_g03414_impl_codeNames)] }
def FnExactParseReportSaid : Prop := fnExactParseReportRow.holds Tryd.pinned (OpenSpec.ofChange fnExactParseReportSpec)

/-- ITS FALSE NEIGHBOUR: 'it returns false'. Refute it at one input. -/
def fnExactParseReportWrong : ChangeSpec := { name := "fnExactParseReport", vars := ["loop.example/g03414/impl.codeNames"], fn := fun _ => fun
  | [d, g1] => { results := [.lit (.bool false)], args := [d], vars := [g1] }
  | _ => none }
def FnExactParseReportWrongFalsely : Prop := fnExactParseReportRow.holds Tryd.pinned (OpenSpec.ofChange fnExactParseReportWrong)

/-- 'laws.FnExactBootBytes': WHATEVER THE INPUT: true; the input reads as it did. -/
def fnExactBootBytesSpec : ChangeSpec := { name := "fnExactBootBytes", vars := ["loop.example/g03414/impl.crowdedPlaces"], fn := fun _ => fun
  | [d, g1] => { results := [.lit (.bool true)], args := [d], vars := [g1] }
  | _ => none }
def fnExactBootBytesRow : OpenClaim := { program := "ytghijkpcmamebaadoor", sum := "0e8676258518fa5d676e7c66585afeab57e01d1e6e46d7537aa17edb168bd359", func := "loop.example/g03414/laws.FnExactBootBytes", spec := "fnExactBootBytes", named := ["loop.example/g03414/impl.crowdedPlaces"], apart := false, laid := [("loop.example/g03414/impl.crowdedPlaces", laid_loop_example_g03414_impl_crowdedPlaces)] }
def FnExactBootBytesSaid : Prop := fnExactBootBytesRow.holds Tryd.pinned (OpenSpec.ofChange fnExactBootBytesSpec)

/-- ITS FALSE NEIGHBOUR: 'it returns false'. Refute it at one input. -/
def fnExactBootBytesWrong : ChangeSpec := { name := "fnExactBootBytes", vars := ["loop.example/g03414/impl.crowdedPlaces"], fn := fun _ => fun
  | [d, g1] => { results := [.lit (.bool false)], args := [d], vars := [g1] }
  | _ => none }
def FnExactBootBytesWrongFalsely : Prop := fnExactBootBytesRow.holds Tryd.pinned (OpenSpec.ofChange fnExactBootBytesWrong)

/-- 'laws.FnExactReadBoot': WHATEVER THE INPUT: true; the input reads as it did. -/
def fnExactReadBootSpec : ChangeSpec := { name := "fnExactReadBoot", vars := ["loop.example/g03414/impl.crowdedPlaces"], fn := fun _ => fun
  | [d1, d2, g1] => { results := [.lit (.bool true)], args := [d1, d2], vars := [g1] }
  | _ => none }
def fnExactReadBootRow : OpenClaim := { program := "ytghijkpcmamebaadoor", sum := "0e8676258518fa5d676e7c66585afeab57e01d1e6e46d7537aa17edb168bd359", func := "loop.example/g03414/laws.FnExactReadBoot", spec := "fnExactReadBoot", named := ["loop.example/g03414/impl.crowdedPlaces"], apart := false, laid := [("loop.example/g03414/impl.crowdedPlaces", laid_loop_example_g03414_impl_crowdedPlaces)] }
def FnExactReadBootSaid : Prop := fnExactReadBootRow.holds Tryd.pinned (OpenSpec.ofChange fnExactReadBootSpec)

/-- ITS FALSE NEIGHBOUR: 'it returns false'. Refute it at one input. -/
def fnExactReadBootWrong : ChangeSpec := { name := "fnExactReadBoot", vars := ["loop.example/g03414/impl.crowdedPlaces"], fn := fun _ => fun
  | [d1, d2, g1] => { results := [.lit (.bool false)], args := [d1, d2], vars := [g1] }
  | _ => none }
def FnExactReadBootWrongFalsely : Prop := fnExactReadBootRow.holds Tryd.pinned (OpenSpec.ofChange fnExactReadBootWrong)

/- THE SECOND FORM. 'bulk': how many values and letters a reading holds, each counted each time it is reached (what is shared counts as often as it is met; a slice's spare places count too). A statement '..UptoSaid' is the law's where the arguments, and the package variables that the reading takes, are together of bulk at most 1048576: NARROWER than '..Said'. Prove '..Said' where nothing that the law and all that it calls make is longer than what came in: it says more and counts as full. Else prove '..UptoSaid'. A law counts once. -/
mutual
def uptoBulk {H : Type} : DataW H → Nat
  | .lit (.string bytes) => bytes.length + 1
  | .lit _ => 1
  | .nil => 1
  | .ptr d => uptoBulk d + 1
  | .slice elems spare => uptoBulkAll elems + uptoBulkAll spare + 1
  | .agg parts => uptoBulkAll parts + 1
  | .iface _ d => uptoBulk d + 1
  | .map entries => uptoBulkEntries entries + 1
  | .held _ => 1
def uptoBulkAll {H : Type} : List (DataW H) → Nat
  | [] => 0
  | d :: r => uptoBulk d + uptoBulkAll r
def uptoBulkEntries {H : Type} : List (Lit × DataW H) → Nat
  | [] => 0
  | x :: r => uptoBulkEntry x + uptoBulkEntries r
def uptoBulkEntry {H : Type} : Lit × DataW H → Nat
  | (.string bytes, d) => bytes.length + uptoBulk d + 1
  | (_, d) => uptoBulk d + 1
 end
def uptoSmall : (H : Type) → List (DataW H) → Bool := fun _ ds => decide (uptoBulkAll ds ≤ 1048576)
def OpenSpec.upto (s : _root_.Go.ChangeSpec) : _root_.Go.OpenSpec := { _root_.Go.OpenSpec.ofChange s with cond := some uptoSmall }

/-- 'laws.FnReports', WHERE WHAT IT READS IS OF BULK AT MOST 1048576: true; the input reads as it did. -/
def fnReportsUptoRow : OpenClaim := { program := "ytghijkpcmamebaadoor", sum := "0e8676258518fa5d676e7c66585afeab57e01d1e6e46d7537aa17edb168bd359", func := "loop.example/g03414/laws.FnReports", spec := "fnReports", inPlace := ["internal/abi.NoEscape", "internal/bytealg.IndexByteString", "internal/bytealg.IndexString"], named := ["loop.example/g03414/impl.codeNames", "internal/bytealg.MaxLen", "loop.example/g03414/impl.crowdedPlaces"], apart := false, laid := [("loop.example/g03414/impl.codeNames", laid_loop_example_g03414_impl_codeNames), ("loop.example/g03414/impl.crowdedPlaces", laid_loop_example_g03414_impl_crowdedPlaces)], narrowed := true }
def FnReportsUptoSaid : Prop := fnReportsUptoRow.holds Tryd.pinned (OpenSpec.upto fnReportsSpec)

/-- 'laws.FnExactFormatReport', WHERE WHAT IT READS IS OF BULK AT MOST 1048576: true; the input reads as it did. -/
def fnExactFormatReportUptoRow : OpenClaim := { program := "ytghijkpcmamebaadoor", sum := "0e8676258518fa5d676e7c66585afeab57e01d1e6e46d7537aa17edb168bd359", func := "loop.example/g03414/laws.FnExactFormatReport", spec := "fnExactFormatReport", inPlace := ["internal/abi.NoEscape"], named := ["loop.example/g03414/impl.codeNames"], apart := false, laid := [("loop.example/g03414/impl.codeNames", laid_loop_example_g03414_impl_codeNames)], narrowed := true }
def FnExactFormatReportUptoSaid : Prop := fnExactFormatReportUptoRow.holds Tryd.pinned (OpenSpec.upto fnExactFormatReportSpec)

/-- 'laws.FnExactParseReport', WHERE WHAT IT READS IS OF BULK AT MOST 1048576: true; the input reads as it did. -/
def fnExactParseReportUptoRow : OpenClaim := { program := "ytghijkpcmamebaadoor", sum := "0e8676258518fa5d676e7c66585afeab57e01d1e6e46d7537aa17edb168bd359", func := "loop.example/g03414/laws.FnExactParseReport", spec := "fnExactParseReport", inPlace := ["internal/bytealg.IndexByteString", "internal/bytealg.IndexString", "internal/abi.NoEscape"], named := ["internal/bytealg.MaxLen", "loop.example/g03414/impl.codeNames"], apart := false, laid := [("loop.example/g03414/impl.codeNames", laid_loop_example_g03414_impl_codeNames)], narrowed := true }
def FnExactParseReportUptoSaid : Prop := fnExactParseReportUptoRow.holds Tryd.pinned (OpenSpec.upto fnExactParseReportSpec)

/-- 'laws.FnExactBootBytes', WHERE WHAT IT READS IS OF BULK AT MOST 1048576: true; the input reads as it did. -/
def fnExactBootBytesUptoRow : OpenClaim := { program := "ytghijkpcmamebaadoor", sum := "0e8676258518fa5d676e7c66585afeab57e01d1e6e46d7537aa17edb168bd359", func := "loop.example/g03414/laws.FnExactBootBytes", spec := "fnExactBootBytes", named := ["loop.example/g03414/impl.crowdedPlaces"], apart := false, laid := [("loop.example/g03414/impl.crowdedPlaces", laid_loop_example_g03414_impl_crowdedPlaces)], narrowed := true }
def FnExactBootBytesUptoSaid : Prop := fnExactBootBytesUptoRow.holds Tryd.pinned (OpenSpec.upto fnExactBootBytesSpec)

/-- 'laws.FnExactReadBoot', WHERE WHAT IT READS IS OF BULK AT MOST 1048576: true; the input reads as it did. -/
def fnExactReadBootUptoRow : OpenClaim := { program := "ytghijkpcmamebaadoor", sum := "0e8676258518fa5d676e7c66585afeab57e01d1e6e46d7537aa17edb168bd359", func := "loop.example/g03414/laws.FnExactReadBoot", spec := "fnExactReadBoot", named := ["loop.example/g03414/impl.crowdedPlaces"], apart := false, laid := [("loop.example/g03414/impl.crowdedPlaces", laid_loop_example_g03414_impl_crowdedPlaces)], narrowed := true }
def FnExactReadBootUptoSaid : Prop := fnExactReadBootUptoRow.holds Tryd.pinned (OpenSpec.upto fnExactReadBootSpec)

end Rows
end Go.Proofs.YtghijkpcmamebaaDoor
