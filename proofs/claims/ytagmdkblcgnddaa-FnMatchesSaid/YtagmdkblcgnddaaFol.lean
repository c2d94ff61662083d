/- DERIVED. Events that can follow each other, as a plain function. No condition. -/
import Derived.Test.YtagmdkblcgnddaaEvSpec
namespace Go.Proofs.Ytagmdkblcgnddaa
open Go.RowKit

/-- One event can come next: keys below k, at the earliest at f, the mask h is down. -/
def folO (k : Int) (e : Ev) (h : Nat) (f : Int) : Bool := okEv e && (!decide (k ≤ e.k) && (!decide (e.t < f) && !(e.d == h.testBit e.k.toNat)))
/-- Events can follow each other. -/
def folV (k : Int) : List Ev → Nat → Int → Bool
  | [], _, _ => true
  | e :: l, h, f => folO k e h f && folV k l (h ^^^ 2 ^ e.k.toNat) e.t
/-- The time of the last event of a list, or d. -/
def lastT (l : List Ev) (d : Int) : Int := (l.getLast?.map Ev.t).getD d

end Go.Proofs.Ytagmdkblcgnddaa
