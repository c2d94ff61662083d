/- DERIVED. The law of IsCombiner and what opens its argument, together. -/
import Derived.Test.YtagmdkblcgnddaaCnLaw
import Derived.Test.YtagmdkblcgnddaaCnOpen
namespace Go.Proofs.Ytagmdkblcgnddaa
open Go.RowKit

theorem lawIsCombiner_fin (c : Cn) (u1 u2 u3 : Value) (w : World) (hn1 : c.C.length ≤ maxLen) (hn2 : c.Q.length ≤ maxLen) (hn3 : c.A.length ≤ maxLen) (hw : AvWf c.A) (h : RdCn w c u1 u2 u3) : Calls Try.prog 10 #[c.val u1 u2 u3] w fun e w' => e = .returned (.bool true) ∧ Below w.heap.size w w' :=
  lawIsCombiner_all c u1 u2 u3 w hn1 hn2 hn3 hw h

end Go.Proofs.Ytagmdkblcgnddaa
