/- DERIVED. The law of IsCombos and what opens its argument, together. -/
import Derived.Test.YtagmdkblcgnddaaCbLaw
import Derived.Test.YtagmdkblcgnddaaCbOpen
namespace Go.Proofs.Ytagmdkblcgnddaa
open Go.RowKit

theorem lawIsCombos_fin (a : Option Addr) (n cap : Nat) (l : List Cb) (w : World) (hn : l.length = n) (hm : n ≤ maxLen) (h : RdN w (.slice a n cap) l.length (flatCb l)) : Calls Try.prog 9 #[.slice a n cap] w fun e w' => e = .returned (.bool true) ∧ Below w.heap.size w w' :=
  lawIsCombos_all a n cap l w hn hm h

end Go.Proofs.Ytagmdkblcgnddaa
