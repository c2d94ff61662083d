/- DERIVED. The laws' own functions on debouncers: the size of one, a copy of it, two that are alike, its marks. Called with a debouncer whose ages read as known numbers. -/
import Derived.Test.YtkhakelhfnoeoaaDoorInts
import Derived.WalkSmall
namespace Go.Proofs.YtkhakelhfnoeoaaDoor
open Go.RowKit

abbrev dbv (k t n s l : Int) (u : Value) : Value := .agg #[.int .i64 k, .int .i64 t, .int .i64 n, .int .i64 s, .int .i64 l, u]
abbrev dbV (k t n s l : Int) (u : Value) : List Value := [.int .i64 k, .int .i64 t, .int .i64 n, .int .i64 s, .int .i64 l, u]
def dbS : List Sh := [.int .i64, .int .i64, .int .i64, .int .i64, .int .i64, .row [.int .i64]]
def dbC (k t n s l : Int) (zs : List Int) : List Ce := [.int k, .int t, .int n, .int s, .int l, .row (ones zs)]

end Go.Proofs.YtkhakelhfnoeoaaDoor
