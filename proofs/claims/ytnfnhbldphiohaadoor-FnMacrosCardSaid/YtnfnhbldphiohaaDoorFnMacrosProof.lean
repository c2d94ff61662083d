/- DERIVED. Whatever the arguments, where the listed tables are as the program's text lays them: the law's function FnMacros returns true, the arguments read as they did, and nothing else that was there turns. -/
import Derived.Test.YtnfnhbldphiohaaDoorCards
import Derived.Test.YtnfnhbldphiohaaDoorTie
import Derived.Test.YtnfnhbldphiohaaDoorMcFinD
import Derived.WalkKit
import Derived.ProofKit
import Derived.OpenShut
import Derived.ShutString
import Derived.ChangeOld
import Derived.Below
import Derived.SliceStrings
import Derived.Deep.DeepHandedRow
import Derived.Lib.LaidTab
import Derived.OpenVars
namespace Go.Proofs.YtnfnhbldphiohaaDoor.fnMacros
open Go.ChangeShapes Go.WideShapes Go.ChangeAt Go.RowKit
open Go.ChangeMaps (open_string shut_string)
set_option linter.unusedVariables false

theorem own : ownKnob Tryd.prog.godebug = none := by kernel_rfl
theorem laidOut : laidOutB Tryd.prog = true := by kernel_rfl
theorem vars_len {H : Type} {enc : TypeId × Value → H} {P : Program} {w : World} {spare : Nat → Bool} : ∀ {ns : List String} {gs : List (DataW H)} {ps : List MemPlace}, DataW.TrodVars enc P w spare ns gs ps → gs.length = ns.length
  | [], [], _, _ => rfl
  | [], _ :: _, _, h => h.elim
  | _ :: _, [], _, h => h.elim
  | _ :: _, _ :: _, _, h => by
    obtain ⟨_, _, _, _, _, _, _, _, _, _, hs, _⟩ := h
    rw [List.length_cons, List.length_cons, vars_len hs]
theorem laid_tail {P : Program} {x : String × DataW Unit} {r : List (String × DataW Unit)} {W : World} (h : laidMet P (x :: r) W) : laidMet P r W := by
  obtain ⟨ps, ⟨g, t, cs, fuel, p, q, _, _, _, _, hq, rfl⟩, hn, ho⟩ := h
  exact ⟨q, hq, (List.nodup_append.mp hn).2.1, fun b off hm => ho b off (List.mem_append_right _ hm)⟩
theorem g0 : Tryd.prog.globalNamed "internal/strconv.uint64pow10" = some 3 := by kernel_rfl
theorem gt0 : (Tryd.prog.globals[3]?).map (·.type) = some 145 := by kernel_rfl
theorem ce0 : Tryd.prog.cellsOf 139 = 1 := by kernel_rfl
theorem ct0 : Tryd.prog.cellsOf 145 = 20 := by kernel_rfl
theorem table0 {W : World} (h : laidMet Tryd.prog Rows.fnMacrosRow.laid W) : Lib.TabIs Tryd.prog W "internal/strconv.uint64pow10" .u64 Lib.pow10Tab := by
  have h0 : laidMet Tryd.prog [("math/bits.deBruijn32tab", Rows.laid_math_bits_deBruijn32tab), ("math/bits.deBruijn64tab", Rows.laid_math_bits_deBruijn64tab), ("internal/strconv.uint64pow10", Rows.laid_internal_strconv_uint64pow10), ("loop.example/g03414/impl.codeNames", Rows.laid_loop_example_g03414_impl_codeNames), ("loop.example/g03414/impl.kindWords", Rows.laid_loop_example_g03414_impl_kindWords)] W := h
  have h1 : laidMet Tryd.prog (("internal/strconv.uint64pow10", Lib.tabData .u64 Lib.pow10Tab) :: [("loop.example/g03414/impl.codeNames", Rows.laid_loop_example_g03414_impl_codeNames), ("loop.example/g03414/impl.kindWords", Rows.laid_loop_example_g03414_impl_kindWords)]) W := (laid_tail (laid_tail h0))
  exact Lib.tabIs_of_head (rest := [("loop.example/g03414/impl.codeNames", Rows.laid_loop_example_g03414_impl_codeNames), ("loop.example/g03414/impl.kindWords", Rows.laid_loop_example_g03414_impl_kindWords)]) g0 gt0 Tryd.underlying145 Tryd.underlying139 ce0 ct0 h1
theorem g1 : Tryd.prog.globalNamed "loop.example/g03414/impl.codeNames" = some 1 := by kernel_rfl
theorem gt1 : (Tryd.prog.globals[1]?).map (·.type) = some 108 := by kernel_rfl
theorem ce1 : Tryd.prog.cellsOf 9 = 1 := by kernel_rfl
theorem ct1 : Tryd.prog.cellsOf 108 = 57 := by kernel_rfl
theorem table1 {W : World} (h : laidMet Tryd.prog Rows.fnMacrosRow.laid W) : TabH W 1 nmTab := by
  have h0 : laidMet Tryd.prog [("math/bits.deBruijn32tab", Rows.laid_math_bits_deBruijn32tab), ("math/bits.deBruijn64tab", Rows.laid_math_bits_deBruijn64tab), ("internal/strconv.uint64pow10", Rows.laid_internal_strconv_uint64pow10), ("loop.example/g03414/impl.codeNames", Rows.laid_loop_example_g03414_impl_codeNames), ("loop.example/g03414/impl.kindWords", Rows.laid_loop_example_g03414_impl_kindWords)] W := h
  have h1 : laidMet Tryd.prog (("loop.example/g03414/impl.codeNames", strData nmTab) :: [("loop.example/g03414/impl.kindWords", Rows.laid_loop_example_g03414_impl_kindWords)]) W := by
    have e : (Rows.laid_loop_example_g03414_impl_codeNames : DataW Unit) = strData nmTab := by rfl
    rw [← e]; exact (laid_tail (laid_tail (laid_tail h0)))
  exact tabH_of_head (rest := [("loop.example/g03414/impl.kindWords", Rows.laid_loop_example_g03414_impl_kindWords)]) g1 gt1 Tryd.underlying108 Tryd.underlying9 ce1 ct1 h1
theorem g2 : Tryd.prog.globalNamed "loop.example/g03414/impl.kindWords" = some 0 := by kernel_rfl
theorem gt2 : (Tryd.prog.globals[0]?).map (·.type) = some 101 := by kernel_rfl
theorem ce2 : Tryd.prog.cellsOf 9 = 1 := by kernel_rfl
theorem ct2 : Tryd.prog.cellsOf 101 = 11 := by kernel_rfl
theorem table2 {W : World} (h : laidMet Tryd.prog Rows.fnMacrosRow.laid W) : TabH W 0 wdTab := by
  have h0 : laidMet Tryd.prog [("math/bits.deBruijn32tab", Rows.laid_math_bits_deBruijn32tab), ("math/bits.deBruijn64tab", Rows.laid_math_bits_deBruijn64tab), ("internal/strconv.uint64pow10", Rows.laid_internal_strconv_uint64pow10), ("loop.example/g03414/impl.codeNames", Rows.laid_loop_example_g03414_impl_codeNames), ("loop.example/g03414/impl.kindWords", Rows.laid_loop_example_g03414_impl_kindWords)] W := h
  have h1 : laidMet Tryd.prog (("loop.example/g03414/impl.kindWords", strData wdTab) :: []) W := by
    have e : (Rows.laid_loop_example_g03414_impl_kindWords : DataW Unit) = strData wdTab := by rfl
    rw [← e]; exact (laid_tail (laid_tail (laid_tail (laid_tail h0))))
  exact tabH_of_head (rest := []) g2 gt2 Tryd.underlying101 Tryd.underlying9 ce2 ct2 h1

set_option maxRecDepth 100000 in
theorem contract (H : Type) (enc : TypeId × Value → H) (W : World) (base : Nat) (args : Array Value) (ds gs : List (DataW H)) (before : List MemPlace)
    (hval0 : ∀ (j : Nat) t v, Tryd.f3.params[j]? = some t → args[j]? = some v → Value.okWide Tryd.prog W .any base t v)
    (hW : DataW.Whole enc Tryd.prog Tryd.f3.params.toList Rows.fnMacrosSpec.vars false W args.toList ds gs before) (hL : laidMetH Tryd.prog Rows.fnMacrosRow.laid W) (hsh : W.ShapedOpen Tryd.prog) :
    Calls Tryd.prog 3 args W fun e W' => ∃ v, e = .returned v ∧ Rows.fnMacrosSpec.post enc Tryd.prog Tryd.f3 false true false false W args v W' := by
  have hval := hval0
  have hW' := hW
  obtain ⟨p, q, hA0, hV, rfl, hfz, hnd⟩ := hW
  have hA : DataW.TrodAll enc Tryd.prog W 0 (fun _ => true) true Tryd.f3.params.toList args.toList ds p := hA0
  rw [Tryd.params3] at hA hval
  obtain ⟨v0, vs0, d0, ds0, p0, q0, hargs, rfl, rfl, h0, r0⟩ := trodAll_cons hA
  obtain ⟨rfl, rfl, rfl⟩ := trodAll_nil r0
  obtain rfl : args = #[v0] := by cases args; simp_all
  obtain ⟨gv0, gv1, rfl⟩ : ∃ x0 x1, gs = [x0, x1] := by
    have hl := vars_len hV
    match gs, hl with
    | [y0, y1], _ => exact ⟨y0, y1, rfl⟩
  have k0 := h0
  have lt0 : ∀ x ∈ p0, x.block < W.heap.size := by obtain ⟨m, hm⟩ := k0; exact DataW.trod_lt m _ _ _ hm
  obtain ⟨a0, len0, cap0, rfl⟩ := okWide_slice Tryd.underlying22 (hval 0 22 v0 rfl rfl)
  obtain ⟨z0, s0⟩ : ∃ zs : List Int, Rd W (.slice a0 len0 cap0) (zs.map (.int .u8)) ∧ (∀ n ∈ zs, (Lit.int .u8 n).wf = true) ∧ zs.length = len0 ∧ len0 ≤ maxLen := by
    obtain ⟨fuel, hf⟩ := h0
    rcases open_ints Tryd.underlying22 Tryd.underlying5 (by kernel_rfl) hf with ⟨hcs, _⟩ | ⟨x, l, c, zs, hcs, _, hl, hm, hz, _, hcell, hwz⟩
    · simp [Value.cells] at hcs; obtain ⟨rfl, rfl, rfl⟩ := hcs; exact ⟨_, rd_of_row (.inl ⟨rfl, rfl, rfl, rfl⟩)⟩
    · simp [Value.cells] at hcs; obtain ⟨rfl, rfl, rfl⟩ := hcs; exact ⟨_, rd_of_row (.inr ⟨_, rfl, hl, hm, by simpa using hz, hcell, hwz⟩)⟩
  have tab0 := table0 (W := W) hL
  have tab1 := table1 (W := W) hL
  have tab2 := table2 (W := W) hL
  clear hA0
  refine (lawMacros_all a0 len0 cap0 z0 W ⟨tab0, tab1, tab2⟩ (maxInt_of hsh) s0.2.2.1 s0.2.1 s0.1).mono fun e W' ⟨he, bel⟩ => ?_
  subst he
  exact ⟨_, rfl, _, _, _, [], _, _, hW', trodAll_mk1 (shut_bool Tryd.underlying4 _), (trodAll_cons_mk (Below.trod laidOut (by kernel_rfl) (of_decide_eq_true (by kernel_rfl)) k0 bel lt0) trodAll_mk0), (bel.trodVars laidOut (by kernel_rfl) hV), bel.frame _, fun h => by cases h⟩

noncomputable def laidWorld (os : Os) : World := { World.holding Tryd.prog os ⟨#[], #[], []⟩ with heap := ((((((World.holding Tryd.prog os ⟨#[], #[], []⟩).heap.modify 4 fun | .cells _ t frozen => .cells #[.int .u8 0, .int .u8 1, .int .u8 28, .int .u8 2, .int .u8 29, .int .u8 14, .int .u8 24, .int .u8 3, .int .u8 30, .int .u8 22, .int .u8 20, .int .u8 15, .int .u8 25, .int .u8 17, .int .u8 4, .int .u8 8, .int .u8 31, .int .u8 27, .int .u8 13, .int .u8 23, .int .u8 21, .int .u8 19, .int .u8 16, .int .u8 7, .int .u8 26, .int .u8 12, .int .u8 18, .int .u8 6, .int .u8 11, .int .u8 5, .int .u8 10, .int .u8 9] t frozen | o => o).modify 5 fun | .cells _ t frozen => .cells #[.int .u8 0, .int .u8 1, .int .u8 56, .int .u8 2, .int .u8 57, .int .u8 49, .int .u8 28, .int .u8 3, .int .u8 61, .int .u8 58, .int .u8 42, .int .u8 50, .int .u8 38, .int .u8 29, .int .u8 17, .int .u8 4, .int .u8 62, .int .u8 47, .int .u8 59, .int .u8 36, .int .u8 45, .int .u8 43, .int .u8 51, .int .u8 22, .int .u8 53, .int .u8 39, .int .u8 33, .int .u8 30, .int .u8 24, .int .u8 18, .int .u8 12, .int .u8 5, .int .u8 63, .int .u8 55, .int .u8 48, .int .u8 27, .int .u8 60, .int .u8 41, .int .u8 37, .int .u8 16, .int .u8 46, .int .u8 35, .int .u8 44, .int .u8 21, .int .u8 52, .int .u8 32, .int .u8 23, .int .u8 11, .int .u8 54, .int .u8 26, .int .u8 40, .int .u8 15, .int .u8 34, .int .u8 20, .int .u8 31, .int .u8 10, .int .u8 25, .int .u8 14, .int .u8 19, .int .u8 9, .int .u8 13, .int .u8 8, .int .u8 7, .int .u8 6] t frozen | o => o).modify 3 fun | .cells _ t frozen => .cells #[.int .u64 1, .int .u64 10, .int .u64 100, .int .u64 1000, .int .u64 10000, .int .u64 100000, .int .u64 1000000, .int .u64 10000000, .int .u64 100000000, .int .u64 1000000000, .int .u64 10000000000, .int .u64 100000000000, .int .u64 1000000000000, .int .u64 10000000000000, .int .u64 100000000000000, .int .u64 1000000000000000, .int .u64 10000000000000000, .int .u64 100000000000000000, .int .u64 1000000000000000000, .int .u64 10000000000000000000] t frozen | o => o).modify 1 fun | .cells _ t frozen => .cells #[.string ⟨#[]⟩, .string ⟨#[97]⟩, .string ⟨#[98]⟩, .string ⟨#[99]⟩, .string ⟨#[100]⟩, .string ⟨#[101]⟩, .string ⟨#[102]⟩, .string ⟨#[103]⟩, .string ⟨#[104]⟩, .string ⟨#[105]⟩, .string ⟨#[106]⟩, .string ⟨#[107]⟩, .string ⟨#[108]⟩, .string ⟨#[109]⟩, .string ⟨#[110]⟩, .string ⟨#[111]⟩, .string ⟨#[112]⟩, .string ⟨#[113]⟩, .string ⟨#[114]⟩, .string ⟨#[115]⟩, .string ⟨#[116]⟩, .string ⟨#[117]⟩, .string ⟨#[118]⟩, .string ⟨#[119]⟩, .string ⟨#[120]⟩, .string ⟨#[121]⟩, .string ⟨#[122]⟩, .string ⟨#[49]⟩, .string ⟨#[50]⟩, .string ⟨#[51]⟩, .string ⟨#[52]⟩, .string ⟨#[53]⟩, .string ⟨#[54]⟩, .string ⟨#[55]⟩, .string ⟨#[56]⟩, .string ⟨#[57]⟩, .string ⟨#[48]⟩, .string ⟨#[101, 110, 116, 101, 114]⟩, .string ⟨#[101, 115, 99]⟩, .string ⟨#[98, 97, 99, 107]⟩, .string ⟨#[116, 97, 98]⟩, .string ⟨#[115, 112, 97, 99, 101]⟩, .string ⟨#[109, 105, 110, 117, 115]⟩, .string ⟨#[101, 113, 117, 97, 108]⟩, .string ⟨#[108, 101, 102, 116]⟩, .string ⟨#[114, 105, 103, 104, 116]⟩, .string ⟨#[117, 112]⟩, .string ⟨#[100, 111, 119, 110]⟩, .string ⟨#[102, 49]⟩, .string ⟨#[102, 50]⟩, .string ⟨#[102, 51]⟩, .string ⟨#[102, 52]⟩, .string ⟨#[102, 53]⟩, .string ⟨#[102, 54]⟩, .string ⟨#[102, 55]⟩, .string ⟨#[102, 56]⟩, .string ⟨#[102, 57]⟩] t frozen | o => o).modify 0 fun | .cells _ t frozen => .cells #[.string ⟨#[110, 111, 110, 101]⟩, .string ⟨#[112, 97, 115, 115]⟩, .string ⟨#[]⟩, .string ⟨#[109, 111]⟩, .string ⟨#[116, 103]⟩, .string ⟨#[116, 111]⟩, .string ⟨#[]⟩, .string ⟨#[]⟩, .string ⟨#[111, 110, 99, 101]⟩, .string ⟨#[109, 97, 99, 114, 111]⟩, .string ⟨#[99, 97, 112, 115]⟩] t frozen | o => o) }
theorem laid_met (os : Os) : laidMet Tryd.prog Rows.fnMacrosRow.laid ((laidWorld os).forCall (fun _ _ => 0) ⟨#[], #[.slice none 0 0], []⟩).memory := laidMet_of_run' 8 (by kernel_rfl) (by kernel_rfl)
theorem reads (os : Os) {H : Type} (enc : TypeId × Value → H) : ∃ places, DataW.whole enc Tryd.prog ((laidWorld os).forCall (fun _ _ => 0) ⟨#[], #[.slice none 0 0], []⟩).memory Tryd.f3.params.toList Rows.fnMacrosSpec.vars false (#[.slice none 0 0] : Array Value).toList 8 = some ([.nil], [Rows.laid_loop_example_g03414_impl_kindWords, Rows.laid_loop_example_g03414_impl_codeNames], places) := ⟨MemPlace.row ⟨0, 0, none⟩ 11 ++ MemPlace.row ⟨1, 0, none⟩ 57, by kernel_rfl⟩

set_option maxRecDepth 100000 in
theorem lifted (os : Os) (started : os.Started) (H : Type) (enc : TypeId × Value → H) (F : Stop.Interp) :
    ReturnsInHanded {} Tryd.checked os 3 .any ((OpenSpec.ofChange Rows.fnMacrosSpec).preRow enc Tryd.prog Tryd.f3 Rows.fnMacrosRow.domain false Rows.fnMacrosRow.laid) (((OpenSpec.ofChange Rows.fnMacrosSpec).at F).post enc Tryd.prog Tryd.f3 false true false false) := by
  obtain ⟨places, hx⟩ := reads os enc
  refine returnsInHanded_of_row (C := Tryd.checked) (s := OpenSpec.ofChange Rows.fnMacrosSpec) own started (by kernel_rfl) Tryd.func3
    (witness_row_at (enc := enc) (C := Tryd.checked) false (laidWorld os) #[.slice none 0 0] rfl (by kernel_rfl) (by kernel_rfl) (by kernel_rfl)
      (OpenSpec.preRow_of_cond 8 hx (by kernel_rfl) (fun k hk => by cases hk) (by kernel_rfl) (laid_met os))) ?_
  intro W base args ds gs before hval hW _ _ _ hL hsh _
  exact contract H enc W base args ds gs before hval hW hL hsh

theorem said : Rows.FnMacrosSaid :=
  OpenClaim.holds_of_cond 3 Tryd.f3 rfl rfl rfl rfl rfl rfl rfl ⟨rfl, rfl, rfl, rfl, rfl⟩ rfl rfl rfl rfl rfl (by kernel_rfl) Tryd.func3 (by kernel_rfl)
    (of_decide_eq_true (by kernel_rfl)) (by unfold Func.isWrapper; first | (rw [if_pos (by decide +kernel)]; kernel_rfl) | (rw [if_neg (by decide +kernel)]; exact ⟨rfl, rfl⟩))
    (fun os started H enc _ F => by rw [OpenClaim.pre_eq_preRow]; exact lifted os started H enc F)

theorem plain (f : FuncId) (fn : Func) (hf : Tryd.pinned.checked.prog.funcNamed "loop.example/g03414/laws.FnMacros" = some f) (hfn : Tryd.pinned.checked.prog.funcs[f]? = some fn) :
    false = Tryd.pinned.checked.prog.looks [] ∧ ∀ (j : Nat) t, fn.params[j]? = some t → Tryd.pinned.checked.prog.wantsStandIn t = false := by
  obtain rfl : f = 3 := Option.some.inj ((show Tryd.prog.funcNamed "loop.example/g03414/laws.FnMacros" = some 3 by kernel_rfl).symm.trans hf) |>.symm
  obtain rfl : fn = Tryd.f3 := (Option.some.inj (Tryd.func3.symm.trans hfn)).symm
  refine ⟨by kernel_rfl, fun j t ht => ?_⟩
  rw [Tryd.params3] at ht
  obtain rfl : t = 22 := by simpa using Array.mem_of_getElem? ht
  exact (show Tryd.prog.wantsStandIn 22 = false by kernel_rfl)

theorem proved : Rows.FnMacrosCardSaid :=
  Claim7.holds_tied_plain_at .later [] _ _ _ _ said (fun _ h => by cases h) (by kernel_rfl) (fun _ h => by cases h) fnMacros_row_tie rfl ⟨rfl, rfl⟩ (by kernel_rfl) rfl plain (by kernel_rfl)
#print axioms proved
end Go.Proofs.YtnfnhbldphiohaaDoor.fnMacros
