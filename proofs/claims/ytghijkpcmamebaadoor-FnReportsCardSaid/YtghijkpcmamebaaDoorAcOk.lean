/- DERIVED. The reference's IsAction, IsTapHold, TapOf, HoldOf: each returns what a plain function says. -/
import Derived.Test.YtghijkpcmamebaaDoorAcs
import Derived.Deep.RegionHeld3
import Derived.Deep.DeepCutAuto
namespace Go.Proofs.YtghijkpcmamebaaDoor
open Go.RowKit


end Go.Proofs.YtghijkpcmamebaaDoor
