/- DERIVED. The laws' own functions on reports: the size of one, a copy of it, two that are alike, its marks. Called with a report whose keys read as known numbers. -/
import Derived.Test.YtbpopgplpipfeaaInts
import Derived.Test.YtbpopgplpipfeaaDeb
import Derived.Test.YtbpopgplpipfeaaLawBits
import Derived.WalkSmall
namespace Go.Proofs.Ytbpopgplpipfeaa
open Go.RowKit

abbrev rpv (r : Int) (u : Value) : Value := .agg #[.int .i64 r, u]
def rpS : List Sh := [.int .i64, .row [.int .i64]]
def rpC (r : Int) (zs : List Int) : List Ce := [.int r, .row (ones zs)]

end Go.Proofs.Ytbpopgplpipfeaa
