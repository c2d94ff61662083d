/-
  NARROWER THAN 'FOR EVERY INPUT', by the rows' own cells (each row's printed sentence says how): FnMacros: laid · FnExactFormatMacro: laid · FnExactParseMacro: laid.
  DERIVED. THE GIVEN ROWS OF THIS SEAT. 3 by the template 'for every input the law returns true; each argument reads behind the call as it read before'; 0 by the template 'total and deterministic' (their statements: YtnfnhbldphiohaaDoorTotals.lean).
  GIVEN WITH THE SEED: the statements are not yours to turn. If you find one false, say at which input.
  Laid BY PROGRAM, IN A SANDBOX (cutbox-rows.mjs): the forced cells as the released guide's own fill.sh prints them over the translation 89b8ff1e9e7e6d09… (all of the seat's roots in one cut). By AI agents, Wed Nov 11 2026. No macro, syntax, notation, axiom, sorry.
-/
import Derived.Test.YtnfnhbldphiohaaDoorChecked
import GoSem.Claim
import GoSem.ClaimJoined
import GoSem.ClaimMapViews
import Derived.JoinedTies
import Derived.KernelRfl
namespace Go.Proofs.YtnfnhbldphiohaaDoor
/- THE CELL 'sum', in the pinned program and in every row, IS THE sha256 OF THE DUMP (.gsa) THAT YtnfnhbldphiohaaDoorProg.lean LOADS. Nothing in Lean hashes anything: it is a label: what it is worth is what the hold of that sum in a sandbox is worth. -/
noncomputable def Tryd.pinned : Pinned := { name := "ytnfnhbldphiohaadoor", sum := "89b8ff1e9e7e6d0976880826f5eb34387455a49262fbb694b55cf231726ea9da", checked := Tryd.checked }
namespace Rows
def none {H : Type} : Left H := { results := [], args := [] }

/- WHAT THE LISTED PACKAGE-LEVEL VARIABLES READ AS WHEN THE CALL BEGINS. Each datum BY PROGRAM (the guide's laid-datum.mjs) off the statement by which the dump's own 'gosem.cut.vars' lays the variable. In a bare row this is a premise. The card (YtnfnhbldphiohaaDoorCards.lean) ties it to the program's text. -/
def laid_math_bits_deBruijn32tab {H : Type} : DataW H := .agg [.lit (.int .u8 0), .lit (.int .u8 1), .lit (.int .u8 28), .lit (.int .u8 2), .lit (.int .u8 29), .lit (.int .u8 14), .lit (.int .u8 24), .lit (.int .u8 3), .lit (.int .u8 30), .lit (.int .u8 22), .lit (.int .u8 20), .lit (.int .u8 15), .lit (.int .u8 25), .lit (.int .u8 17), .lit (.int .u8 4), .lit (.int .u8 8), .lit (.int .u8 31), .lit (.int .u8 27), .lit (.int .u8 13), .lit (.int .u8 23), .lit (.int .u8 21), .lit (.int .u8 19), .lit (.int .u8 16), .lit (.int .u8 7), .lit (.int .u8 26), .lit (.int .u8 12), .lit (.int .u8 18), .lit (.int .u8 6), .lit (.int .u8 11), .lit (.int .u8 5), .lit (.int .u8 10), .lit (.int .u8 9)]
def laid_math_bits_deBruijn64tab {H : Type} : DataW H := .agg [.lit (.int .u8 0), .lit (.int .u8 1), .lit (.int .u8 56), .lit (.int .u8 2), .lit (.int .u8 57), .lit (.int .u8 49), .lit (.int .u8 28), .lit (.int .u8 3), .lit (.int .u8 61), .lit (.int .u8 58), .lit (.int .u8 42), .lit (.int .u8 50), .lit (.int .u8 38), .lit (.int .u8 29), .lit (.int .u8 17), .lit (.int .u8 4), .lit (.int .u8 62), .lit (.int .u8 47), .lit (.int .u8 59), .lit (.int .u8 36), .lit (.int .u8 45), .lit (.int .u8 43), .lit (.int .u8 51), .lit (.int .u8 22), .lit (.int .u8 53), .lit (.int .u8 39), .lit (.int .u8 33), .lit (.int .u8 30), .lit (.int .u8 24), .lit (.int .u8 18), .lit (.int .u8 12), .lit (.int .u8 5), .lit (.int .u8 63), .lit (.int .u8 55), .lit (.int .u8 48), .lit (.int .u8 27), .lit (.int .u8 60), .lit (.int .u8 41), .lit (.int .u8 37), .lit (.int .u8 16), .lit (.int .u8 46), .lit (.int .u8 35), .lit (.int .u8 44), .lit (.int .u8 21), .lit (.int .u8 52), .lit (.int .u8 32), .lit (.int .u8 23), .lit (.int .u8 11), .lit (.int .u8 54), .lit (.int .u8 26), .lit (.int .u8 40), .lit (.int .u8 15), .lit (.int .u8 34), .lit (.int .u8 20), .lit (.int .u8 31), .lit (.int .u8 10), .lit (.int .u8 25), .lit (.int .u8 14), .lit (.int .u8 19), .lit (.int .u8 9), .lit (.int .u8 13), .lit (.int .u8 8), .lit (.int .u8 7), .lit (.int .u8 6)]
def laid_internal_strconv_uint64pow10 {H : Type} : DataW H := .agg [.lit (.int .u64 1), .lit (.int .u64 10), .lit (.int .u64 100), .lit (.int .u64 1000), .lit (.int .u64 10000), .lit (.int .u64 100000), .lit (.int .u64 1000000), .lit (.int .u64 10000000), .lit (.int .u64 100000000), .lit (.int .u64 1000000000), .lit (.int .u64 10000000000), .lit (.int .u64 100000000000), .lit (.int .u64 1000000000000), .lit (.int .u64 10000000000000), .lit (.int .u64 100000000000000), .lit (.int .u64 1000000000000000), .lit (.int .u64 10000000000000000), .lit (.int .u64 100000000000000000), .lit (.int .u64 1000000000000000000), .lit (.int .u64 10000000000000000000)]
def laid_loop_example_g03414_impl_codeNames {H : Type} : DataW H := .agg [.lit (.string []), .lit (.string [97]), .lit (.string [98]), .lit (.string [99]), .lit (.string [100]), .lit (.string [101]), .lit (.string [102]), .lit (.string [103]), .lit (.string [104]), .lit (.string [105]), .lit (.string [106]), .lit (.string [107]), .lit (.string [108]), .lit (.string [109]), .lit (.string [110]), .lit (.string [111]), .lit (.string [112]), .lit (.string [113]), .lit (.string [114]), .lit (.string [115]), .lit (.string [116]), .lit (.string [117]), .lit (.string [118]), .lit (.string [119]), .lit (.string [120]), .lit (.string [121]), .lit (.string [122]), .lit (.string [49]), .lit (.string [50]), .lit (.string [51]), .lit (.string [52]), .lit (.string [53]), .lit (.string [54]), .lit (.string [55]), .lit (.string [56]), .lit (.string [57]), .lit (.string [48]), .lit (.string [101, 110, 116, 101, 114]), .lit (.string [101, 115, 99]), .lit (.string [98, 97, 99, 107]), .lit (.string [116, 97, 98]), .lit (.string [115, 112, 97, 99, 101]), .lit (.string [109, 105, 110, 117, 115]), .lit (.string [101, 113, 117, 97, 108]), .lit (.string [108, 101, 102, 116]), .lit (.string [114, 105, 103, 104, 116]), .lit (.string [117, 112]), .lit (.string [100, 111, 119, 110]), .lit (.string [102, 49]), .lit (.string [102, 50]), .lit (.string [102, 51]), .lit (.string [102, 52]), .lit (.string [102, 53]), .lit (.string [102, 54]), .lit (.string [102, 55]), .lit (.string [102, 56]), .lit (.string [102, 57])]
def laid_loop_example_g03414_impl_kindWords {H : Type} : DataW H := .agg [.lit (.string [110, 111, 110, 101]), .lit (.string [112, 97, 115, 115]), .lit (.string []), .lit (.string [109, 111]), .lit (.string [116, 103]), .lit (.string [116, 111]), .lit (.string []), .lit (.string []), .lit (.string [111, 110, 99, 101]), .lit (.string [109, 97, 99, 114, 111]), .lit (.string [99, 97, 112, 115])]

/-- 'laws.FnMacros': WHATEVER THE INPUT: true; the input reads as it did. -/
def fnMacrosSpec : ChangeSpec := { name := "fnMacros", vars := ["loop.example/g03414/impl.kindWords", "loop.example/g03414/impl.codeNames"], fn := fun _ => fun
  | [d, g1, g2] => { results := [.lit (.bool true)], args := [d], vars := [g1, g2] }
  | _ => none }
def fnMacrosRow : OpenClaim := { program := "ytnfnhbldphiohaadoor", sum := "89b8ff1e9e7e6d0976880826f5eb34387455a49262fbb694b55cf231726ea9da", func := "loop.example/g03414/laws.FnMacros", spec := "fnMacros", inPlace := ["internal/abi.NoEscape", "internal/bytealg.IndexByteString", "internal/bytealg.IndexString"], unfollowed := true, recurses := true, named := ["loop.example/g03414/impl.kindWords", "loop.example/g03414/impl.codeNames", "internal/strconv.uint64pow10", "math/bits.deBruijn32tab", "math/bits.deBruijn64tab", "internal/bytealg.MaxLen"], apart := false, laid := [("math/bits.deBruijn32tab", laid_math_bits_deBruijn32tab), ("math/bits.deBruijn64tab", laid_math_bits_deBruijn64tab), ("internal/strconv.uint64pow10", laid_internal_strconv_uint64pow10), ("loop.example/g03414/impl.codeNames", laid_loop_example_g03414_impl_codeNames), ("loop.example/g03414/impl.kindWords", laid_loop_example_g03414_impl_kindWords)] }
def FnMacrosSaid : Prop := fnMacrosRow.holds Tryd.pinned (OpenSpec.ofChange fnMacrosSpec)

/-- ITS FALSE NEIGHBOUR: 'it returns false'. Refute it at one input. -/
def fnMacrosWrong : ChangeSpec := { name := "fnMacros", vars := ["loop.example/g03414/impl.kindWords", "loop.example/g03414/impl.codeNames"], fn := fun _ => fun
  | [d, g1, g2] => { results := [.lit (.bool false)], args := [d], vars := [g1, g2] }
  | _ => none }
def FnMacrosWrongFalsely : Prop := fnMacrosRow.holds Tryd.pinned (OpenSpec.ofChange fnMacrosWrong)

/-- 'laws.FnExactFormatMacro': WHATEVER THE INPUT: true; the input reads as it did. -/
def fnExactFormatMacroSpec : ChangeSpec := { name := "fnExactFormatMacro", vars := ["loop.example/g03414/impl.kindWords", "loop.example/g03414/impl.codeNames"], fn := fun _ => fun
  | [d, g1, g2] => { results := [.lit (.bool true)], args := [d], vars := [g1, g2] }
  | _ => none }
def fnExactFormatMacroRow : OpenClaim := { program := "ytnfnhbldphiohaadoor", sum := "89b8ff1e9e7e6d0976880826f5eb34387455a49262fbb694b55cf231726ea9da", func := "loop.example/g03414/laws.FnExactFormatMacro", spec := "fnExactFormatMacro", inPlace := ["internal/abi.NoEscape"], unfollowed := true, recurses := true, named := ["loop.example/g03414/impl.kindWords", "loop.example/g03414/impl.codeNames", "internal/strconv.uint64pow10", "math/bits.deBruijn32tab", "math/bits.deBruijn64tab"], apart := false, laid := [("math/bits.deBruijn32tab", laid_math_bits_deBruijn32tab), ("math/bits.deBruijn64tab", laid_math_bits_deBruijn64tab), ("internal/strconv.uint64pow10", laid_internal_strconv_uint64pow10), ("loop.example/g03414/impl.codeNames", laid_loop_example_g03414_impl_codeNames), ("loop.example/g03414/impl.kindWords", laid_loop_example_g03414_impl_kindWords)] }
def FnExactFormatMacroSaid : Prop := fnExactFormatMacroRow.holds Tryd.pinned (OpenSpec.ofChange fnExactFormatMacroSpec)

/-- ITS FALSE NEIGHBOUR: 'it returns false'. Refute it at one input. -/
def fnExactFormatMacroWrong : ChangeSpec := { name := "fnExactFormatMacro", vars := ["loop.example/g03414/impl.kindWords", "loop.example/g03414/impl.codeNames"], fn := fun _ => fun
  | [d, g1, g2] => { results := [.lit (.bool false)], args := [d], vars := [g1, g2] }
  | _ => none }
def FnExactFormatMacroWrongFalsely : Prop := fnExactFormatMacroRow.holds Tryd.pinned (OpenSpec.ofChange fnExactFormatMacroWrong)

/-- 'laws.FnExactParseMacro': WHATEVER THE INPUT: true; the input reads as it did. -/
def fnExactParseMacroSpec : ChangeSpec := { name := "fnExactParseMacro", vars := ["loop.example/g03414/impl.codeNames", "loop.example/g03414/impl.kindWords"], fn := fun _ => fun
  | [d, g1, g2] => { results := [.lit (.bool true)], args := [d], vars := [g1, g2] }
  | _ => none }
def fnExactParseMacroRow : OpenClaim := { program := "ytnfnhbldphiohaadoor", sum := "89b8ff1e9e7e6d0976880826f5eb34387455a49262fbb694b55cf231726ea9da", func := "loop.example/g03414/laws.FnExactParseMacro", spec := "fnExactParseMacro", inPlace := ["internal/bytealg.IndexByteString", "internal/bytealg.IndexString"], unfollowed := true, recurses := true, named := ["internal/bytealg.MaxLen", "loop.example/g03414/impl.codeNames", "internal/strconv.uint64pow10", "math/bits.deBruijn32tab", "math/bits.deBruijn64tab", "loop.example/g03414/impl.kindWords"], apart := false, laid := [("math/bits.deBruijn32tab", laid_math_bits_deBruijn32tab), ("math/bits.deBruijn64tab", laid_math_bits_deBruijn64tab), ("internal/strconv.uint64pow10", laid_internal_strconv_uint64pow10), ("loop.example/g03414/impl.codeNames", laid_loop_example_g03414_impl_codeNames), ("loop.example/g03414/impl.kindWords", laid_loop_example_g03414_impl_kindWords)] }
def FnExactParseMacroSaid : Prop := fnExactParseMacroRow.holds Tryd.pinned (OpenSpec.ofChange fnExactParseMacroSpec)

/-- ITS FALSE NEIGHBOUR: 'it returns false'. Refute it at one input. -/
def fnExactParseMacroWrong : ChangeSpec := { name := "fnExactParseMacro", vars := ["loop.example/g03414/impl.codeNames", "loop.example/g03414/impl.kindWords"], fn := fun _ => fun
  | [d, g1, g2] => { results := [.lit (.bool false)], args := [d], vars := [g1, g2] }
  | _ => none }
def FnExactParseMacroWrongFalsely : Prop := fnExactParseMacroRow.holds Tryd.pinned (OpenSpec.ofChange fnExactParseMacroWrong)

/- THE SECOND FORM. 'bulk': how many values and letters a reading holds, each counted each time it is reached (what is shared counts as often as it is met; a slice's spare places count too). A statement '..UptoSaid' is the law's where the arguments, and the package variables that the reading takes, are together of bulk at most 1048576: NARROWER than '..Said'. Prove '..Said' where nothing that the law and all that it calls make is longer than what came in: it says more and counts as full. Else prove '..UptoSaid'. A law counts once. -/
mutual
def uptoBulk {H : Type} : DataW H → Nat
  | .lit (.string bytes) => bytes.length + 1
  | .lit _ => 1
  | .nil => 1
  | .ptr d => uptoBulk d + 1
  | .slice elems spare => uptoBulkAll elems + uptoBulkAll spare + 1
  | .agg parts => uptoBulkAll parts + 1
  | .iface _ d => uptoBulk d + 1
  | .map entries => uptoBulkEntries entries + 1
  | .held _ => 1
def uptoBulkAll {H : Type} : List (DataW H) → Nat
  | [] => 0
  | d :: r => uptoBulk d + uptoBulkAll r
def uptoBulkEntries {H : Type} : List (Lit × DataW H) → Nat
  | [] => 0
  | x :: r => uptoBulkEntry x + uptoBulkEntries r
def uptoBulkEntry {H : Type} : Lit × DataW H → Nat
  | (.string bytes, d) => bytes.length + uptoBulk d + 1
  | (_, d) => uptoBulk d + 1
 end
def uptoSmall : (H : Type) → List (DataW H) → Bool := fun _ ds => decide (uptoBulkAll ds ≤ 1048576)
def OpenSpec.upto (s : _root_.Go.ChangeSpec) : _root_.Go.OpenSpec := { _root_.Go.OpenSpec.ofChange s with cond := some uptoSmall }

/-- 'laws.FnMacros', WHERE WHAT IT READS IS OF BULK AT MOST 1048576: true; the input reads as it did. -/
def fnMacrosUptoRow : OpenClaim := { program := "ytnfnhbldphiohaadoor", sum := "89b8ff1e9e7e6d0976880826f5eb34387455a49262fbb694b55cf231726ea9da", func := "loop.example/g03414/laws.FnMacros", spec := "fnMacros", inPlace := ["internal/abi.NoEscape", "internal/bytealg.IndexByteString", "internal/bytealg.IndexString"], unfollowed := true, recurses := true, named := ["loop.example/g03414/impl.kindWords", "loop.example/g03414/impl.codeNames", "internal/strconv.uint64pow10", "math/bits.deBruijn32tab", "math/bits.deBruijn64tab", "internal/bytealg.MaxLen"], apart := false, laid := [("math/bits.deBruijn32tab", laid_math_bits_deBruijn32tab), ("math/bits.deBruijn64tab", laid_math_bits_deBruijn64tab), ("internal/strconv.uint64pow10", laid_internal_strconv_uint64pow10), ("loop.example/g03414/impl.codeNames", laid_loop_example_g03414_impl_codeNames), ("loop.example/g03414/impl.kindWords", laid_loop_example_g03414_impl_kindWords)], narrowed := true }
def FnMacrosUptoSaid : Prop := fnMacrosUptoRow.holds Tryd.pinned (OpenSpec.upto fnMacrosSpec)

/-- 'laws.FnExactFormatMacro', WHERE WHAT IT READS IS OF BULK AT MOST 1048576: true; the input reads as it did. -/
def fnExactFormatMacroUptoRow : OpenClaim := { program := "ytnfnhbldphiohaadoor", sum := "89b8ff1e9e7e6d0976880826f5eb34387455a49262fbb694b55cf231726ea9da", func := "loop.example/g03414/laws.FnExactFormatMacro", spec := "fnExactFormatMacro", inPlace := ["internal/abi.NoEscape"], unfollowed := true, recurses := true, named := ["loop.example/g03414/impl.kindWords", "loop.example/g03414/impl.codeNames", "internal/strconv.uint64pow10", "math/bits.deBruijn32tab", "math/bits.deBruijn64tab"], apart := false, laid := [("math/bits.deBruijn32tab", laid_math_bits_deBruijn32tab), ("math/bits.deBruijn64tab", laid_math_bits_deBruijn64tab), ("internal/strconv.uint64pow10", laid_internal_strconv_uint64pow10), ("loop.example/g03414/impl.codeNames", laid_loop_example_g03414_impl_codeNames), ("loop.example/g03414/impl.kindWords", laid_loop_example_g03414_impl_kindWords)], narrowed := true }
def FnExactFormatMacroUptoSaid : Prop := fnExactFormatMacroUptoRow.holds Tryd.pinned (OpenSpec.upto fnExactFormatMacroSpec)

/-- 'laws.FnExactParseMacro', WHERE WHAT IT READS IS OF BULK AT MOST 1048576: true; the input reads as it did. -/
def fnExactParseMacroUptoRow : OpenClaim := { program := "ytnfnhbldphiohaadoor", sum := "89b8ff1e9e7e6d0976880826f5eb34387455a49262fbb694b55cf231726ea9da", func := "loop.example/g03414/laws.FnExactParseMacro", spec := "fnExactParseMacro", inPlace := ["internal/bytealg.IndexByteString", "internal/bytealg.IndexString"], unfollowed := true, recurses := true, named := ["internal/bytealg.MaxLen", "loop.example/g03414/impl.codeNames", "internal/strconv.uint64pow10", "math/bits.deBruijn32tab", "math/bits.deBruijn64tab", "loop.example/g03414/impl.kindWords"], apart := false, laid := [("math/bits.deBruijn32tab", laid_math_bits_deBruijn32tab), ("math/bits.deBruijn64tab", laid_math_bits_deBruijn64tab), ("internal/strconv.uint64pow10", laid_internal_strconv_uint64pow10), ("loop.example/g03414/impl.codeNames", laid_loop_example_g03414_impl_codeNames), ("loop.example/g03414/impl.kindWords", laid_loop_example_g03414_impl_kindWords)], narrowed := true }
def FnExactParseMacroUptoSaid : Prop := fnExactParseMacroUptoRow.holds Tryd.pinned (OpenSpec.upto fnExactParseMacroSpec)

end Rows
end Go.Proofs.YtnfnhbldphiohaaDoor
