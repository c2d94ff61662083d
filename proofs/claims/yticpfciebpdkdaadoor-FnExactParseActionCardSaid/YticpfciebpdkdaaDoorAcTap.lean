/- DERIVED. The reference's TapOf and HoldOf: each returns what a plain function says. -/
import Derived.Test.YticpfciebpdkdaaDoorAcOk
namespace Go.Proofs.YticpfciebpdkdaaDoor
open Go.RowKit


end Go.Proofs.YticpfciebpdkdaaDoor
