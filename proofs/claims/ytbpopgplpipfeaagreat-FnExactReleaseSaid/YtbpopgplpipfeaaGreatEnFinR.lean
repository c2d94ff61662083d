/- DERIVED. The exact law of Release, over the program's own function. Called with any arguments, it returns true and changes nothing that was there. -/
import Derived.Test.YtbpopgplpipfeaaGreatEnRelJ
import Derived.Test.YtbpopgplpipfeaaGreatEnLawR
import Derived.Test.YtbpopgplpipfeaaGreatEnOpen
namespace Go.Proofs.YtbpopgplpipfeaaGreat
open Go.RowKit

theorem lawRelease_all (e : En) (u1 u2 u3 : Value) (key : Int) (w : World) (hn1 : e.L.length ≤ maxLen ∧ ∀ l ∈ e.L, l.length ≤ maxLen) (hn2 : e.F.length ≤ maxLen ∧ ∀ l ∈ e.F, l.length ≤ maxLen) (hn3 : e.H.length ≤ maxLen) (h : RdE w e u1 u2 u3) :
    Calls Tryz.prog 7 #[env e.k u1 u2 e.x u3 e.o e.p, .int .i64 key] w fun r w' => r = .returned (.bool true) ∧ Below w.heap.size w w' :=
  lawRelease_walk e u1 u2 u3 key w hn1 hn2 hn3 h (fun w' v1 v2 v3 hz _ hr => implRelease_any e v1 v2 v3 key w' hz hr)

end Go.Proofs.YtbpopgplpipfeaaGreat
