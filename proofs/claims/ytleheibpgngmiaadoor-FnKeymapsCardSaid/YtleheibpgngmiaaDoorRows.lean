/-
  NARROWER THAN 'FOR EVERY INPUT', by the rows' own cells (each row's printed sentence says how): FnNumbers: laid · FnActions: laid · FnKeymaps: laid · FnExactFormatKeymap: laid · FnExactParseKeymap: laid.
  DERIVED. THE GIVEN ROWS OF THIS SEAT. 5 by the template 'for every input the law returns true; each argument reads behind the call as it read before'; 0 by the template 'total and deterministic' (their statements: YtleheibpgngmiaaDoorTotals.lean).
  GIVEN WITH THE SEED: the statements are not yours to turn. If you find one false, say at which input.
  Laid BY PROGRAM, IN A SANDBOX (cutbox-rows.mjs): the forced cells as the released guide's own fill.sh prints them over the translation a271597d6507c028… (all of the seat's roots in one cut). By AI agents, Wed Nov 11 2026. No macro, syntax, notation, axiom, sorry.
-/
import Derived.Test.YtleheibpgngmiaaDoorChecked
import GoSem.PinnedTables
import GoSem.Claim
import GoSem.ClaimJoined
import GoSem.ClaimMapViews
import Derived.JoinedTies
import Derived.KernelRfl
namespace Go.Proofs.YtleheibpgngmiaaDoor
/- THE CELL 'sum', in the pinned program and in every row, IS THE sha256 OF THE DUMP (.gsa) THAT YtleheibpgngmiaaDoorProg.lean LOADS. Nothing in Lean hashes anything: it is a label: what it is worth is what the hold of that sum in a sandbox is worth. -/
noncomputable def Tryd.pinned : Pinned := { name := "ytleheibpgngmiaadoor", sum := "a271597d6507c0282da01e70c9997a2304a80a3b4618f876b3e4480105d8ae22", checked := Tryd.checked }
namespace Rows
def none {H : Type} : Left H := { results := [], args := [] }

/- WHAT THE LISTED PACKAGE-LEVEL VARIABLES READ AS WHEN THE CALL BEGINS. Each datum BY PROGRAM (the guide's laid-datum.mjs) off the statement by which the dump's own 'gosem.cut.vars' lays the variable. In a bare row this is a premise. The card (YtleheibpgngmiaaDoorCards.lean) ties it to the program's text. -/
def laid_math_bits_deBruijn32tab {H : Type} : DataW H := .agg [.lit (.int .u8 0), .lit (.int .u8 1), .lit (.int .u8 28), .lit (.int .u8 2), .lit (.int .u8 29), .lit (.int .u8 14), .lit (.int .u8 24), .lit (.int .u8 3), .lit (.int .u8 30), .lit (.int .u8 22), .lit (.int .u8 20), .lit (.int .u8 15), .lit (.int .u8 25), .lit (.int .u8 17), .lit (.int .u8 4), .lit (.int .u8 8), .lit (.int .u8 31), .lit (.int .u8 27), .lit (.int .u8 13), .lit (.int .u8 23), .lit (.int .u8 21), .lit (.int .u8 19), .lit (.int .u8 16), .lit (.int .u8 7), .lit (.int .u8 26), .lit (.int .u8 12), .lit (.int .u8 18), .lit (.int .u8 6), .lit (.int .u8 11), .lit (.int .u8 5), .lit (.int .u8 10), .lit (.int .u8 9)]
def laid_math_bits_deBruijn64tab {H : Type} : DataW H := .agg [.lit (.int .u8 0), .lit (.int .u8 1), .lit (.int .u8 56), .lit (.int .u8 2), .lit (.int .u8 57), .lit (.int .u8 49), .lit (.int .u8 28), .lit (.int .u8 3), .lit (.int .u8 61), .lit (.int .u8 58), .lit (.int .u8 42), .lit (.int .u8 50), .lit (.int .u8 38), .lit (.int .u8 29), .lit (.int .u8 17), .lit (.int .u8 4), .lit (.int .u8 62), .lit (.int .u8 47), .lit (.int .u8 59), .lit (.int .u8 36), .lit (.int .u8 45), .lit (.int .u8 43), .lit (.int .u8 51), .lit (.int .u8 22), .lit (.int .u8 53), .lit (.int .u8 39), .lit (.int .u8 33), .lit (.int .u8 30), .lit (.int .u8 24), .lit (.int .u8 18), .lit (.int .u8 12), .lit (.int .u8 5), .lit (.int .u8 63), .lit (.int .u8 55), .lit (.int .u8 48), .lit (.int .u8 27), .lit (.int .u8 60), .lit (.int .u8 41), .lit (.int .u8 37), .lit (.int .u8 16), .lit (.int .u8 46), .lit (.int .u8 35), .lit (.int .u8 44), .lit (.int .u8 21), .lit (.int .u8 52), .lit (.int .u8 32), .lit (.int .u8 23), .lit (.int .u8 11), .lit (.int .u8 54), .lit (.int .u8 26), .lit (.int .u8 40), .lit (.int .u8 15), .lit (.int .u8 34), .lit (.int .u8 20), .lit (.int .u8 31), .lit (.int .u8 10), .lit (.int .u8 25), .lit (.int .u8 14), .lit (.int .u8 19), .lit (.int .u8 9), .lit (.int .u8 13), .lit (.int .u8 8), .lit (.int .u8 7), .lit (.int .u8 6)]
def laid_internal_strconv_uint64pow10 {H : Type} : DataW H := .agg [.lit (.int .u64 1), .lit (.int .u64 10), .lit (.int .u64 100), .lit (.int .u64 1000), .lit (.int .u64 10000), .lit (.int .u64 100000), .lit (.int .u64 1000000), .lit (.int .u64 10000000), .lit (.int .u64 100000000), .lit (.int .u64 1000000000), .lit (.int .u64 10000000000), .lit (.int .u64 100000000000), .lit (.int .u64 1000000000000), .lit (.int .u64 10000000000000), .lit (.int .u64 100000000000000), .lit (.int .u64 1000000000000000), .lit (.int .u64 10000000000000000), .lit (.int .u64 100000000000000000), .lit (.int .u64 1000000000000000000), .lit (.int .u64 10000000000000000000)]
def laid_loop_example_g03414_impl_codeNames {H : Type} : DataW H := .agg [.lit (.string []), .lit (.string [97]), .lit (.string [98]), .lit (.string [99]), .lit (.string [100]), .lit (.string [101]), .lit (.string [102]), .lit (.string [103]), .lit (.string [104]), .lit (.string [105]), .lit (.string [106]), .lit (.string [107]), .lit (.string [108]), .lit (.string [109]), .lit (.string [110]), .lit (.string [111]), .lit (.string [112]), .lit (.string [113]), .lit (.string [114]), .lit (.string [115]), .lit (.string [116]), .lit (.string [117]), .lit (.string [118]), .lit (.string [119]), .lit (.string [120]), .lit (.string [121]), .lit (.string [122]), .lit (.string [49]), .lit (.string [50]), .lit (.string [51]), .lit (.string [52]), .lit (.string [53]), .lit (.string [54]), .lit (.string [55]), .lit (.string [56]), .lit (.string [57]), .lit (.string [48]), .lit (.string [101, 110, 116, 101, 114]), .lit (.string [101, 115, 99]), .lit (.string [98, 97, 99, 107]), .lit (.string [116, 97, 98]), .lit (.string [115, 112, 97, 99, 101]), .lit (.string [109, 105, 110, 117, 115]), .lit (.string [101, 113, 117, 97, 108]), .lit (.string [108, 101, 102, 116]), .lit (.string [114, 105, 103, 104, 116]), .lit (.string [117, 112]), .lit (.string [100, 111, 119, 110]), .lit (.string [102, 49]), .lit (.string [102, 50]), .lit (.string [102, 51]), .lit (.string [102, 52]), .lit (.string [102, 53]), .lit (.string [102, 54]), .lit (.string [102, 55]), .lit (.string [102, 56]), .lit (.string [102, 57])]
def laid_loop_example_g03414_impl_kindWords {H : Type} : DataW H := .agg [.lit (.string [110, 111, 110, 101]), .lit (.string [112, 97, 115, 115]), .lit (.string []), .lit (.string [109, 111]), .lit (.string [116, 103]), .lit (.string [116, 111]), .lit (.string []), .lit (.string []), .lit (.string [111, 110, 99, 101]), .lit (.string [109, 97, 99, 114, 111]), .lit (.string [99, 97, 112, 115])]
def laid_unicode_utf8_acceptRanges {H : Type} : DataW H := .agg [.agg [.lit (.int .u8 128), .lit (.int .u8 191)], .agg [.lit (.int .u8 160), .lit (.int .u8 191)], .agg [.lit (.int .u8 128), .lit (.int .u8 159)], .agg [.lit (.int .u8 144), .lit (.int .u8 191)], .agg [.lit (.int .u8 128), .lit (.int .u8 143)], .agg [.lit (.int .u8 0), .lit (.int .u8 0)], .agg [.lit (.int .u8 0), .lit (.int .u8 0)], .agg [.lit (.int .u8 0), .lit (.int .u8 0)], .agg [.lit (.int .u8 0), .lit (.int .u8 0)], .agg [.lit (.int .u8 0), .lit (.int .u8 0)], .agg [.lit (.int .u8 0), .lit (.int .u8 0)], .agg [.lit (.int .u8 0), .lit (.int .u8 0)], .agg [.lit (.int .u8 0), .lit (.int .u8 0)], .agg [.lit (.int .u8 0), .lit (.int .u8 0)], .agg [.lit (.int .u8 0), .lit (.int .u8 0)], .agg [.lit (.int .u8 0), .lit (.int .u8 0)]]
/-- One of Go's own tables, pinned by name: the form's constant. -/
def laid_unicode_utf8_first : DataW Unit := Go.Pinned.utf8First

/-- 'laws.FnNumbers': WHATEVER THE INPUT: true; the input reads as it did. -/
def fnNumbersSpec : ChangeSpec := { name := "fnNumbers", fn := fun _ => fun
  | [d] => { results := [.lit (.bool true)], args := [d] }
  | _ => none }
def fnNumbersRow : OpenClaim := { program := "ytleheibpgngmiaadoor", sum := "a271597d6507c0282da01e70c9997a2304a80a3b4618f876b3e4480105d8ae22", func := "loop.example/g03414/laws.FnNumbers", spec := "fnNumbers", named := ["internal/strconv.uint64pow10", "math/bits.deBruijn32tab", "math/bits.deBruijn64tab"], apart := false, laid := [("math/bits.deBruijn32tab", laid_math_bits_deBruijn32tab), ("math/bits.deBruijn64tab", laid_math_bits_deBruijn64tab), ("internal/strconv.uint64pow10", laid_internal_strconv_uint64pow10)] }
def FnNumbersSaid : Prop := fnNumbersRow.holds Tryd.pinned (OpenSpec.ofChange fnNumbersSpec)

/-- ITS FALSE NEIGHBOUR: 'it returns false'. Refute it at one input. -/
def fnNumbersWrong : ChangeSpec := { name := "fnNumbers", fn := fun _ => fun
  | [d] => { results := [.lit (.bool false)], args := [d] }
  | _ => none }
def FnNumbersWrongFalsely : Prop := fnNumbersRow.holds Tryd.pinned (OpenSpec.ofChange fnNumbersWrong)

/-- 'laws.FnActions': WHATEVER THE INPUT: true; the input reads as it did. -/
def fnActionsSpec : ChangeSpec := { name := "fnActions", vars := ["loop.example/g03414/impl.kindWords", "loop.example/g03414/impl.codeNames"], fn := fun _ => fun
  | [d, g1, g2] => { results := [.lit (.bool true)], args := [d], vars := [g1, g2] }
  | _ => none }
def fnActionsRow : OpenClaim := { program := "ytleheibpgngmiaadoor", sum := "a271597d6507c0282da01e70c9997a2304a80a3b4618f876b3e4480105d8ae22", func := "loop.example/g03414/laws.FnActions", spec := "fnActions", inPlace := ["internal/bytealg.IndexByteString", "internal/bytealg.IndexString"], named := ["loop.example/g03414/impl.kindWords", "loop.example/g03414/impl.codeNames", "internal/strconv.uint64pow10", "math/bits.deBruijn32tab", "math/bits.deBruijn64tab", "internal/bytealg.MaxLen"], apart := false, laid := [("math/bits.deBruijn32tab", laid_math_bits_deBruijn32tab), ("math/bits.deBruijn64tab", laid_math_bits_deBruijn64tab), ("internal/strconv.uint64pow10", laid_internal_strconv_uint64pow10), ("loop.example/g03414/impl.codeNames", laid_loop_example_g03414_impl_codeNames), ("loop.example/g03414/impl.kindWords", laid_loop_example_g03414_impl_kindWords)] }
def FnActionsSaid : Prop := fnActionsRow.holds Tryd.pinned (OpenSpec.ofChange fnActionsSpec)

/-- ITS FALSE NEIGHBOUR: 'it returns false'. Refute it at one input. -/
def fnActionsWrong : ChangeSpec := { name := "fnActions", vars := ["loop.example/g03414/impl.kindWords", "loop.example/g03414/impl.codeNames"], fn := fun _ => fun
  | [d, g1, g2] => { results := [.lit (.bool false)], args := [d], vars := [g1, g2] }
  | _ => none }
def FnActionsWrongFalsely : Prop := fnActionsRow.holds Tryd.pinned (OpenSpec.ofChange fnActionsWrong)

/-- 'laws.FnKeymaps': WHATEVER THE INPUT: true; the input reads as it did. -/
def fnKeymapsSpec : ChangeSpec := { name := "fnKeymaps", vars := ["loop.example/g03414/impl.kindWords", "loop.example/g03414/impl.codeNames"], fn := fun _ => fun
  | [d, g1, g2] => { results := [.lit (.bool true)], args := [d], vars := [g1, g2] }
  | _ => none }
def fnKeymapsRow : OpenClaim := { program := "ytleheibpgngmiaadoor", sum := "a271597d6507c0282da01e70c9997a2304a80a3b4618f876b3e4480105d8ae22", func := "loop.example/g03414/laws.FnKeymaps", spec := "fnKeymaps", inPlace := ["internal/abi.NoEscape", "internal/bytealg.CountString", "internal/bytealg.IndexByteString", "internal/bytealg.IndexString"], named := ["loop.example/g03414/impl.kindWords", "loop.example/g03414/impl.codeNames", "internal/strconv.uint64pow10", "math/bits.deBruijn32tab", "math/bits.deBruijn64tab", "unicode/utf8.first", "unicode/utf8.acceptRanges", "internal/bytealg.MaxLen"], apart := false, laid := [("math/bits.deBruijn32tab", laid_math_bits_deBruijn32tab), ("math/bits.deBruijn64tab", laid_math_bits_deBruijn64tab), ("internal/strconv.uint64pow10", laid_internal_strconv_uint64pow10), ("unicode/utf8.acceptRanges", laid_unicode_utf8_acceptRanges), ("loop.example/g03414/impl.codeNames", laid_loop_example_g03414_impl_codeNames), ("loop.example/g03414/impl.kindWords", laid_loop_example_g03414_impl_kindWords), ("unicode/utf8.first", laid_unicode_utf8_first)] }
def FnKeymapsSaid : Prop := fnKeymapsRow.holds Tryd.pinned (OpenSpec.ofChange fnKeymapsSpec)

/-- ITS FALSE NEIGHBOUR: 'it returns false'. Refute it at one input. -/
def fnKeymapsWrong : ChangeSpec := { name := "fnKeymaps", vars := ["loop.example/g03414/impl.kindWords", "loop.example/g03414/impl.codeNames"], fn := fun _ => fun
  | [d, g1, g2] => { results := [.lit (.bool false)], args := [d], vars := [g1, g2] }
  | _ => none }
def FnKeymapsWrongFalsely : Prop := fnKeymapsRow.holds Tryd.pinned (OpenSpec.ofChange fnKeymapsWrong)

/-- 'laws.FnExactFormatKeymap': WHATEVER THE INPUT: true; the input reads as it did. -/
def fnExactFormatKeymapSpec : ChangeSpec := { name := "fnExactFormatKeymap", vars := ["loop.example/g03414/impl.kindWords", "loop.example/g03414/impl.codeNames"], fn := fun _ => fun
  | [d, g1, g2] => { results := [.lit (.bool true)], args := [d], vars := [g1, g2] }
  | _ => none }
def fnExactFormatKeymapRow : OpenClaim := { program := "ytleheibpgngmiaadoor", sum := "a271597d6507c0282da01e70c9997a2304a80a3b4618f876b3e4480105d8ae22", func := "loop.example/g03414/laws.FnExactFormatKeymap", spec := "fnExactFormatKeymap", inPlace := ["internal/abi.NoEscape"], named := ["loop.example/g03414/impl.kindWords", "loop.example/g03414/impl.codeNames", "internal/strconv.uint64pow10", "math/bits.deBruijn32tab", "math/bits.deBruijn64tab"], apart := false, laid := [("math/bits.deBruijn32tab", laid_math_bits_deBruijn32tab), ("math/bits.deBruijn64tab", laid_math_bits_deBruijn64tab), ("internal/strconv.uint64pow10", laid_internal_strconv_uint64pow10), ("loop.example/g03414/impl.codeNames", laid_loop_example_g03414_impl_codeNames), ("loop.example/g03414/impl.kindWords", laid_loop_example_g03414_impl_kindWords)] }
def FnExactFormatKeymapSaid : Prop := fnExactFormatKeymapRow.holds Tryd.pinned (OpenSpec.ofChange fnExactFormatKeymapSpec)

/-- ITS FALSE NEIGHBOUR: 'it returns false'. Refute it at one input. -/
def fnExactFormatKeymapWrong : ChangeSpec := { name := "fnExactFormatKeymap", vars := ["loop.example/g03414/impl.kindWords", "loop.example/g03414/impl.codeNames"], fn := fun _ => fun
  | [d, g1, g2] => { results := [.lit (.bool false)], args := [d], vars := [g1, g2] }
  | _ => none }
def FnExactFormatKeymapWrongFalsely : Prop := fnExactFormatKeymapRow.holds Tryd.pinned (OpenSpec.ofChange fnExactFormatKeymapWrong)

/-- 'laws.FnExactParseKeymap': WHATEVER THE INPUT: true; the input reads as it did. -/
def fnExactParseKeymapSpec : ChangeSpec := { name := "fnExactParseKeymap", vars := ["loop.example/g03414/impl.codeNames", "loop.example/g03414/impl.kindWords"], fn := fun _ => fun
  | [d, g1, g2] => { results := [.lit (.bool true)], args := [d], vars := [g1, g2] }
  | _ => none }
def fnExactParseKeymapRow : OpenClaim := { program := "ytleheibpgngmiaadoor", sum := "a271597d6507c0282da01e70c9997a2304a80a3b4618f876b3e4480105d8ae22", func := "loop.example/g03414/laws.FnExactParseKeymap", spec := "fnExactParseKeymap", inPlace := ["internal/bytealg.CountString", "internal/bytealg.IndexByteString", "internal/bytealg.IndexString"], named := ["unicode/utf8.first", "unicode/utf8.acceptRanges", "internal/bytealg.MaxLen", "loop.example/g03414/impl.codeNames", "internal/strconv.uint64pow10", "math/bits.deBruijn32tab", "math/bits.deBruijn64tab", "loop.example/g03414/impl.kindWords"], apart := false, laid := [("math/bits.deBruijn32tab", laid_math_bits_deBruijn32tab), ("math/bits.deBruijn64tab", laid_math_bits_deBruijn64tab), ("internal/strconv.uint64pow10", laid_internal_strconv_uint64pow10), ("unicode/utf8.acceptRanges", laid_unicode_utf8_acceptRanges), ("loop.example/g03414/impl.codeNames", laid_loop_example_g03414_impl_codeNames), ("loop.example/g03414/impl.kindWords", laid_loop_example_g03414_impl_kindWords), ("unicode/utf8.first", laid_unicode_utf8_first)] }
def FnExactParseKeymapSaid : Prop := fnExactParseKeymapRow.holds Tryd.pinned (OpenSpec.ofChange fnExactParseKeymapSpec)

/-- ITS FALSE NEIGHBOUR: 'it returns false'. Refute it at one input. -/
def fnExactParseKeymapWrong : ChangeSpec := { name := "fnExactParseKeymap", vars := ["loop.example/g03414/impl.codeNames", "loop.example/g03414/impl.kindWords"], fn := fun _ => fun
  | [d, g1, g2] => { results := [.lit (.bool false)], args := [d], vars := [g1, g2] }
  | _ => none }
def FnExactParseKeymapWrongFalsely : Prop := fnExactParseKeymapRow.holds Tryd.pinned (OpenSpec.ofChange fnExactParseKeymapWrong)

/- THE SECOND FORM. 'bulk': how many values and letters a reading holds, each counted each time it is reached (what is shared counts as often as it is met; a slice's spare places count too). A statement '..UptoSaid' is the law's where the arguments, and the package variables that the reading takes, are together of bulk at most 1048576: NARROWER than '..Said'. Prove '..Said' where nothing that the law and all that it calls make is longer than what came in: it says more and counts as full. Else prove '..UptoSaid'. A law counts once. -/
mutual
def uptoBulk {H : Type} : DataW H → Nat
  | .lit (.string bytes) => bytes.length + 1
  | .lit _ => 1
  | .nil => 1
  | .ptr d => uptoBulk d + 1
  | .slice elems spare => uptoBulkAll elems + uptoBulkAll spare + 1
  | .agg parts => uptoBulkAll parts + 1
  | .iface _ d => uptoBulk d + 1
  | .map entries => uptoBulkEntries entries + 1
  | .held _ => 1
def uptoBulkAll {H : Type} : List (DataW H) → Nat
  | [] => 0
  | d :: r => uptoBulk d + uptoBulkAll r
def uptoBulkEntries {H : Type} : List (Lit × DataW H) → Nat
  | [] => 0
  | x :: r => uptoBulkEntry x + uptoBulkEntries r
def uptoBulkEntry {H : Type} : Lit × DataW H → Nat
  | (.string bytes, d) => bytes.length + uptoBulk d + 1
  | (_, d) => uptoBulk d + 1
 end
def uptoSmall : (H : Type) → List (DataW H) → Bool := fun _ ds => decide (uptoBulkAll ds ≤ 1048576)
def OpenSpec.upto (s : _root_.Go.ChangeSpec) : _root_.Go.OpenSpec := { _root_.Go.OpenSpec.ofChange s with cond := some uptoSmall }

/-- 'laws.FnNumbers', WHERE WHAT IT READS IS OF BULK AT MOST 1048576: true; the input reads as it did. -/
def fnNumbersUptoRow : OpenClaim := { program := "ytleheibpgngmiaadoor", sum := "a271597d6507c0282da01e70c9997a2304a80a3b4618f876b3e4480105d8ae22", func := "loop.example/g03414/laws.FnNumbers", spec := "fnNumbers", named := ["internal/strconv.uint64pow10", "math/bits.deBruijn32tab", "math/bits.deBruijn64tab"], apart := false, laid := [("math/bits.deBruijn32tab", laid_math_bits_deBruijn32tab), ("math/bits.deBruijn64tab", laid_math_bits_deBruijn64tab), ("internal/strconv.uint64pow10", laid_internal_strconv_uint64pow10)], narrowed := true }
def FnNumbersUptoSaid : Prop := fnNumbersUptoRow.holds Tryd.pinned (OpenSpec.upto fnNumbersSpec)

/-- 'laws.FnActions', WHERE WHAT IT READS IS OF BULK AT MOST 1048576: true; the input reads as it did. -/
def fnActionsUptoRow : OpenClaim := { program := "ytleheibpgngmiaadoor", sum := "a271597d6507c0282da01e70c9997a2304a80a3b4618f876b3e4480105d8ae22", func := "loop.example/g03414/laws.FnActions", spec := "fnActions", inPlace := ["internal/bytealg.IndexByteString", "internal/bytealg.IndexString"], named := ["loop.example/g03414/impl.kindWords", "loop.example/g03414/impl.codeNames", "internal/strconv.uint64pow10", "math/bits.deBruijn32tab", "math/bits.deBruijn64tab", "internal/bytealg.MaxLen"], apart := false, laid := [("math/bits.deBruijn32tab", laid_math_bits_deBruijn32tab), ("math/bits.deBruijn64tab", laid_math_bits_deBruijn64tab), ("internal/strconv.uint64pow10", laid_internal_strconv_uint64pow10), ("loop.example/g03414/impl.codeNames", laid_loop_example_g03414_impl_codeNames), ("loop.example/g03414/impl.kindWords", laid_loop_example_g03414_impl_kindWords)], narrowed := true }
def FnActionsUptoSaid : Prop := fnActionsUptoRow.holds Tryd.pinned (OpenSpec.upto fnActionsSpec)

/-- 'laws.FnKeymaps', WHERE WHAT IT READS IS OF BULK AT MOST 1048576: true; the input reads as it did. -/
def fnKeymapsUptoRow : OpenClaim := { program := "ytleheibpgngmiaadoor", sum := "a271597d6507c0282da01e70c9997a2304a80a3b4618f876b3e4480105d8ae22", func := "loop.example/g03414/laws.FnKeymaps", spec := "fnKeymaps", inPlace := ["internal/abi.NoEscape", "internal/bytealg.CountString", "internal/bytealg.IndexByteString", "internal/bytealg.IndexString"], named := ["loop.example/g03414/impl.kindWords", "loop.example/g03414/impl.codeNames", "internal/strconv.uint64pow10", "math/bits.deBruijn32tab", "math/bits.deBruijn64tab", "unicode/utf8.first", "unicode/utf8.acceptRanges", "internal/bytealg.MaxLen"], apart := false, laid := [("math/bits.deBruijn32tab", laid_math_bits_deBruijn32tab), ("math/bits.deBruijn64tab", laid_math_bits_deBruijn64tab), ("internal/strconv.uint64pow10", laid_internal_strconv_uint64pow10), ("unicode/utf8.acceptRanges", laid_unicode_utf8_acceptRanges), ("loop.example/g03414/impl.codeNames", laid_loop_example_g03414_impl_codeNames), ("loop.example/g03414/impl.kindWords", laid_loop_example_g03414_impl_kindWords), ("unicode/utf8.first", laid_unicode_utf8_first)], narrowed := true }
def FnKeymapsUptoSaid : Prop := fnKeymapsUptoRow.holds Tryd.pinned (OpenSpec.upto fnKeymapsSpec)

/-- 'laws.FnExactFormatKeymap', WHERE WHAT IT READS IS OF BULK AT MOST 1048576: true; the input reads as it did. -/
def fnExactFormatKeymapUptoRow : OpenClaim := { program := "ytleheibpgngmiaadoor", sum := "a271597d6507c0282da01e70c9997a2304a80a3b4618f876b3e4480105d8ae22", func := "loop.example/g03414/laws.FnExactFormatKeymap", spec := "fnExactFormatKeymap", inPlace := ["internal/abi.NoEscape"], named := ["loop.example/g03414/impl.kindWords", "loop.example/g03414/impl.codeNames", "internal/strconv.uint64pow10", "math/bits.deBruijn32tab", "math/bits.deBruijn64tab"], apart := false, laid := [("math/bits.deBruijn32tab", laid_math_bits_deBruijn32tab), ("math/bits.deBruijn64tab", laid_math_bits_deBruijn64tab), ("internal/strconv.uint64pow10", laid_internal_strconv_uint64pow10), ("loop.example/g03414/impl.codeNames", laid_loop_example_g03414_impl_codeNames), ("loop.example/g03414/impl.kindWords", laid_loop_example_g03414_impl_kindWords)], narrowed := true }
def FnExactFormatKeymapUptoSaid : Prop := fnExactFormatKeymapUptoRow.holds Tryd.pinned (OpenSpec.upto fnExactFormatKeymapSpec)

/-- 'laws.FnExactParseKeymap', WHERE WHAT IT READS IS OF BULK AT MOST 1048576: true; the input reads as it did. -/
def fnExactParseKeymapUptoRow : OpenClaim := { program := "ytleheibpgngmiaadoor", sum := "a271597d6507c0282da01e70c9997a2304a80a3b4618f876b3e4480105d8ae22", func := "loop.example/g03414/laws.FnExactParseKeymap", spec := "fnExactParseKeymap", inPlace := ["internal/bytealg.CountString", "internal/bytealg.IndexByteString", "internal/bytealg.IndexString"], named := ["unicode/utf8.first", "unicode/utf8.acceptRanges", "internal/bytealg.MaxLen", "loop.example/g03414/impl.codeNames", "internal/strconv.uint64pow10", "math/bits.deBruijn32tab", "math/bits.deBruijn64tab", "loop.example/g03414/impl.kindWords"], apart := false, laid := [("math/bits.deBruijn32tab", laid_math_bits_deBruijn32tab), ("math/bits.deBruijn64tab", laid_math_bits_deBruijn64tab), ("internal/strconv.uint64pow10", laid_internal_strconv_uint64pow10), ("unicode/utf8.acceptRanges", laid_unicode_utf8_acceptRanges), ("loop.example/g03414/impl.codeNames", laid_loop_example_g03414_impl_codeNames), ("loop.example/g03414/impl.kindWords", laid_loop_example_g03414_impl_kindWords), ("unicode/utf8.first", laid_unicode_utf8_first)], narrowed := true }
def FnExactParseKeymapUptoSaid : Prop := fnExactParseKeymapUptoRow.holds Tryd.pinned (OpenSpec.upto fnExactParseKeymapSpec)

end Rows
end Go.Proofs.YtleheibpgngmiaaDoor
