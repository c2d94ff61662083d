/- DERIVED. Timings and choices as plain functions. No condition. -/
import Derived.Test.YtagmdkblcgnddaaEvSpec
namespace Go.Proofs.Ytagmdkblcgnddaa
open Go.RowKit

/-- A timing: its term, its quick time, its flavor. -/
structure Tm where
  t : Int
  q : Int
  f : Int
def okTm (t : Tm) : Bool := inB t.t 1 1000 && (inB t.q 0 1000 && inB t.f 0 2)
/-- What a choice is with the rest of the events: mask of the others that went down. -/
def chcG (t : Tm) (key fin now : Int) : List Ev → Nat → Int × Int
  | [], _ => if fin ≤ now then (2, fin) else (0, 0)
  | e :: l, h =>
    if okEv e = false then (0, 0)
    else if fin ≤ e.t then (2, fin)
    else if e.k = key ∧ e.d = false then (1, e.t)
    else if e.k = key then chcG t key fin now l h
    else if e.d = true ∧ t.f = 1 then (2, e.t)
    else if e.d = true then chcG t key fin now l (h ||| 2 ^ e.k.toNat)
    else if t.f = 2 ∧ h.testBit e.k.toNat = true then (2, e.t)
    else chcG t key fin now l h
def chcV (t : Tm) (key time : Int) (rest : List Ev) (now : Int) : Int × Int :=
  if (okTm t && inB time 0 1000000) = true then chcG t key (time + t.t) now rest 0 else (0, 0)

end Go.Proofs.Ytagmdkblcgnddaa
