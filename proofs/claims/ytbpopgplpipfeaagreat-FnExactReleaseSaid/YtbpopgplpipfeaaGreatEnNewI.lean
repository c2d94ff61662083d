/- DERIVED. The program's NewEngine: the engine of a keymap and macros, copied, if it is valid. -/
import Derived.Test.YtbpopgplpipfeaaGreatEnPr
import Derived.Test.YtbpopgplpipfeaaGreatEnImplC
import Derived.Test.YtbpopgplpipfeaaGreatEnImpl
namespace Go.Proofs.YtbpopgplpipfeaaGreat
open Go.RowKit


end Go.Proofs.YtbpopgplpipfeaaGreat
