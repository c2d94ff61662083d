/- DERIVED. Exact laws of chapter 7 over the program's own contracts. -/
import Derived.Test.YtghijkpcmamebaaHdLaw
import Derived.Test.YtghijkpcmamebaaRpLaw
import Derived.Test.YtghijkpcmamebaaHdImpl
import Derived.Test.YtghijkpcmamebaaRpImpl
import Derived.Test.YtghijkpcmamebaaRpImpl2
import Derived.Test.YtghijkpcmamebaaRpImpl3
import Derived.Test.YtghijkpcmamebaaRpLaw2
import Derived.Test.YtghijkpcmamebaaHdOpen
import Derived.Test.YtghijkpcmamebaaRpOpen
namespace Go.Proofs.Ytghijkpcmamebaa
open Go.RowKit
theorem lawIsHeld_all (a : Option Addr) (n cap : Nat) (l : List Hd) (w : World) (hn : l.length = n) (hm : n ≤ maxLen) (h : RdN w (.slice a n cap) l.length (flatHd l)) :
    Calls Try.prog 4 #[.slice a n cap] w fun e w' => e = .returned (.bool true) ∧ Below w.heap.size w w' :=
  lawIsHeld_walk a n cap l w hn hm h (fun v l w hl hr => implIsHeld_any v l w hl hr)
theorem lawLayersOn_all (fixed : Int) (a : Option Addr) (n cap : Nat) (l : List Hd) (w : World) (hn : l.length = n) (hm : n ≤ maxLen) (h : RdN w (.slice a n cap) l.length (flatHd l)) :
    Calls Try.prog 5 #[.int .i64 fixed, .slice a n cap] w fun e w' => e = .returned (.bool true) ∧ Below w.heap.size w w' :=
  lawLayersOn_walk fixed a n cap l w hn hm h (fun v l w hl hr => implLayersOn_any fixed v l w hl hr)
theorem lawReportOf_all (a : Option Addr) (n cap : Nat) (l : List Hd) (w : World) (hn : l.length = n) (hm : n ≤ maxLen) (h : RdN w (.slice a n cap) l.length (flatHd l)) :
    Calls Try.prog 6 #[.slice a n cap] w fun e w' => e = .returned (.bool true) ∧ Below w.heap.size w w' :=
  lawReportOf_walk a n cap l w hn hm h (fun v l w hl hr => implReportOf_any v l w hl hr)
theorem lawIsReport_all (r : Int) (a : Option Addr) (m cap : Nat) (zs : List Int) (w : World) (hm : zs.length = m) (hml : m ≤ maxLen) (h : Rd w (.slice a m cap) (zs.map (.int .i64))) :
    Calls Try.prog 7 #[rpv r (.slice a m cap)] w fun e w' => e = .returned (.bool true) ∧ Below w.heap.size w w' :=
  lawIsReport_walk r a m cap zs w hm hml h (fun r u zs w hl hr => implIsReport_any r u zs w hl hr)
theorem lawSameReport_all (r1 : Int) (a1 : Option Addr) (m1 cap1 : Nat) (z1 : List Int) (r2 : Int) (a2 : Option Addr) (m2 cap2 : Nat) (z2 : List Int) (w : World) (hm1 : z1.length = m1) (hml1 : m1 ≤ maxLen) (h1 : Rd w (.slice a1 m1 cap1) (z1.map (.int .i64))) (hm2 : z2.length = m2) (hml2 : m2 ≤ maxLen) (h2 : Rd w (.slice a2 m2 cap2) (z2.map (.int .i64))) :
    Calls Try.prog 8 #[rpv r1 (.slice a1 m1 cap1), rpv r2 (.slice a2 m2 cap2)] w fun e w' => e = .returned (.bool true) ∧ Below w.heap.size w w' :=
  lawSameReport_walk r1 a1 m1 cap1 z1 r2 a2 m2 cap2 z2 w hm1 hml1 h1 hm2 hml2 h2 (fun r1 u1 z1 r2 u2 z2 w hl1 _ hr1 hr2 => implSameReport_any r1 u1 z1 r2 u2 z2 w hl1 hr1 hr2)
theorem lawBitBytes_all (r : Int) (a : Option Addr) (m cap : Nat) (zs : List Int) (w : World) (hm : zs.length = m) (hml : m ≤ maxLen) (h : Rd w (.slice a m cap) (zs.map (.int .i64))) :
    Calls Try.prog 9 #[rpv r (.slice a m cap)] w fun e w' => e = .returned (.bool true) ∧ Below w.heap.size w w' :=
  lawBitBytes_walk r a m cap zs w hm hml h (fun r u zs w hl hr => (implBitBytes_any r u zs w hl hr).mono fun _ _ hp => byOut hp)
theorem lawReadBits_all (a : Option Addr) (n cap : Nat) (zs : List Int) (w : World) (hn : zs.length = n) (hm : n ≤ maxLen) (hz : ∀ z ∈ zs, (Lit.int .u8 z).wf = true) (h : Rd w (.slice a n cap) (zs.map (.int .u8))) :
    Calls Try.prog 10 #[.slice a n cap] w fun e w' => e = .returned (.bool true) ∧ Below w.heap.size w w' :=
  lawReadBits_walk a n cap zs w hn hm (fun z hm => by have h := hz z hm; simp [Lit.wf, IntKind.min, IntKind.max, IntKind.signed, IntKind.bits] at h; omega) h (fun v zs w hl hz hr => implReadBits_any v zs w hl hz hr)

end Go.Proofs.Ytghijkpcmamebaa
