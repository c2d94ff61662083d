/- DERIVED. Chapter 12's exact laws with reports among their arguments, and what opens such arguments. -/
import Derived.Test.YteljmfdlegohbaaHoLaw2
import Derived.Test.YteljmfdlegohbaaRpsOpen
namespace Go.Proofs.Yteljmfdlegohbaa
open Go.RowKit

theorem lawNewKeys_fin (r1 : Int) (a1 : Option Addr) (m1 cap1 : Nat) (z1 : List Int) (r2 : Int) (a2 : Option Addr) (m2 cap2 : Nat) (z2 : List Int) (w : World) (hm1 : z1.length = m1) (hml1 : m1 ≤ maxLen) (h1 : Rd w (.slice a1 m1 cap1) (z1.map (.int .i64))) (hm2 : z2.length = m2) (hml2 : m2 ≤ maxLen) (h2 : Rd w (.slice a2 m2 cap2) (z2.map (.int .i64))) :
    Calls Try.prog 14 #[rpv r1 (.slice a1 m1 cap1), rpv r2 (.slice a2 m2 cap2)] w fun e w' => e = .returned (.bool true) ∧ Below w.heap.size w w' :=
  lawNewKeys_all r1 a1 m1 cap1 z1 r2 a2 m2 cap2 z2 w hm1 hml1 h1 hm2 hml2 h2

end Go.Proofs.Yteljmfdlegohbaa
