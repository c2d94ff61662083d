/-
  DERIVED. GIVEN WITH THE SEED: THE PROGRAM's TIES (one call each: nine closed facts by the kernel) AND EACH ROW's TIE, after the 31st guide's Derived/Test/Toyas{Tie, Card}.lean. No idea stands in it: it is a product of the set-up. Laid BY PROGRAM, IN A SANDBOX (cutbox-door.mjs). By AI agents, Wed Nov 11 2026. No macro, syntax, notation, axiom, sorry.
-/
import Derived.Test.YtghijkpcmamebaaDoorRows
import Derived.LaidByTextLater
import Derived.SevenTiedAt
import Derived.LaidSub
import Derived.LaidOnce
namespace Go.Proofs.YtghijkpcmamebaaDoor
open Go
set_option maxRecDepth 100000
theorem seatTie1 : Tryd.prog.laidByTextLater [("loop.example/g03414/impl.codeNames", Rows.laid_loop_example_g03414_impl_codeNames), ("loop.example/g03414/impl.crowdedPlaces", Rows.laid_loop_example_g03414_impl_crowdedPlaces)] [.data, .data] true :=
  Program.laidByTextLater_by_one 19 8 58 (by kernel_rfl) (by kernel_rfl) (by kernel_rfl) (by kernel_rfl) (by kernel_rfl) (by kernel_rfl) (fun _ _ => by kernel_rfl)
theorem noOwnUnsafe : Tryd.pinned.checked.prog.headLifts.contains "ownunsafe" = false := by kernel_rfl
theorem tie : Tryd.prog.laidByTextLater [("loop.example/g03414/impl.codeNames", Rows.laid_loop_example_g03414_impl_codeNames), ("loop.example/g03414/impl.crowdedPlaces", Rows.laid_loop_example_g03414_impl_crowdedPlaces)] [.data, .data] true :=
  Program.laidByTextLater.sub seatTie1 ["loop.example/g03414/impl.codeNames", "loop.example/g03414/impl.crowdedPlaces"] (by kernel_rfl) (by kernel_rfl)
theorem fnReports_row_tie : Rows.fnReportsRow.laidByTextAt .later Tryd.pinned [.data, .data] true :=
  OpenClaim.laidByTextAt_later rfl rfl tie noOwnUnsafe
theorem tie2 : Tryd.prog.laidByTextLater [("loop.example/g03414/impl.codeNames", Rows.laid_loop_example_g03414_impl_codeNames)] [.data] true :=
  Program.laidByTextLater.sub seatTie1 ["loop.example/g03414/impl.codeNames"] (by kernel_rfl) (by kernel_rfl)
theorem fnExactFormatReport_row_tie : Rows.fnExactFormatReportRow.laidByTextAt .later Tryd.pinned [.data] true :=
  OpenClaim.laidByTextAt_later rfl rfl tie2 noOwnUnsafe
theorem fnExactParseReport_row_tie : Rows.fnExactParseReportRow.laidByTextAt .later Tryd.pinned [.data] true :=
  OpenClaim.laidByTextAt_later rfl rfl tie2 noOwnUnsafe
theorem tie3 : Tryd.prog.laidByTextLater [("loop.example/g03414/impl.crowdedPlaces", Rows.laid_loop_example_g03414_impl_crowdedPlaces)] [.data] true :=
  Program.laidByTextLater.sub seatTie1 ["loop.example/g03414/impl.crowdedPlaces"] (by kernel_rfl) (by kernel_rfl)
theorem fnExactBootBytes_row_tie : Rows.fnExactBootBytesRow.laidByTextAt .later Tryd.pinned [.data] true :=
  OpenClaim.laidByTextAt_later rfl rfl tie3 noOwnUnsafe
theorem fnExactReadBoot_row_tie : Rows.fnExactReadBootRow.laidByTextAt .later Tryd.pinned [.data] true :=
  OpenClaim.laidByTextAt_later rfl rfl tie3 noOwnUnsafe
theorem fnReportsUpto_row_tie : Rows.fnReportsUptoRow.laidByTextAt .later Tryd.pinned [.data, .data] true :=
  OpenClaim.laidByTextAt_later rfl rfl tie noOwnUnsafe
theorem fnExactFormatReportUpto_row_tie : Rows.fnExactFormatReportUptoRow.laidByTextAt .later Tryd.pinned [.data] true :=
  OpenClaim.laidByTextAt_later rfl rfl tie2 noOwnUnsafe
theorem fnExactParseReportUpto_row_tie : Rows.fnExactParseReportUptoRow.laidByTextAt .later Tryd.pinned [.data] true :=
  OpenClaim.laidByTextAt_later rfl rfl tie2 noOwnUnsafe
theorem fnExactBootBytesUpto_row_tie : Rows.fnExactBootBytesUptoRow.laidByTextAt .later Tryd.pinned [.data] true :=
  OpenClaim.laidByTextAt_later rfl rfl tie3 noOwnUnsafe
theorem fnExactReadBootUpto_row_tie : Rows.fnExactReadBootUptoRow.laidByTextAt .later Tryd.pinned [.data] true :=
  OpenClaim.laidByTextAt_later rfl rfl tie3 noOwnUnsafe
end Go.Proofs.YtghijkpcmamebaaDoor
