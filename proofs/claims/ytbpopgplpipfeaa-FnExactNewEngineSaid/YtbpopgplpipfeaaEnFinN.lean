/- DERIVED. The exact law of NewEngine, over the program's own function. Called with any arguments, it returns true and changes nothing that was there. -/
import Derived.Test.YtbpopgplpipfeaaEnNewI
import Derived.Test.YtbpopgplpipfeaaEnLawN
import Derived.Test.YtbpopgplpipfeaaEnOpen
namespace Go.Proofs.Ytbpopgplpipfeaa
open Go.RowKit

theorem lawNewEngine_all (k : Int) (u1 u2 : Value) (L : List (List Ac)) (F : List (List St)) (w : World) (hn1 : L.length ≤ maxLen ∧ ∀ l ∈ L, l.length ≤ maxLen) (hn2 : F.length ≤ maxLen ∧ ∀ l ∈ F, l.length ≤ maxLen) (h1 : LdS w u1 L) (h2 : LdT w u2 F) :
    Calls Try.prog 5 #[kmv k u1, u2] w fun r w' => r = .returned (.bool true) ∧ Below w.heap.size w w' :=
  lawNewEngine_walk k u1 u2 L F w hn1 hn2 h1 h2 (fun w' v1 v2 hz _ g1 g2 => implNewEngine_any k v1 v2 L F w' hz g1 g2)

end Go.Proofs.Ytbpopgplpipfeaa
