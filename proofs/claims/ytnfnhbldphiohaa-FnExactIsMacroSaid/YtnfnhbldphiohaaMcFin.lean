/- DERIVED. The exact laws of IsMacro and MacroReports, over the program's own functions. Called with any arguments, each returns true and changes nothing that was there. -/
import Derived.Test.YtnfnhbldphiohaaMcRepI
import Derived.Test.YtnfnhbldphiohaaStOpen
import Derived.Test.YtnfnhbldphiohaaHdOpen
namespace Go.Proofs.Ytnfnhbldphiohaa
open Go.RowKit

theorem lawIsMacro_all (a : Option Addr) (n cap : Nat) (s : List St) (w : World) (hn : s.length = n) (hm : n ≤ maxLen) (h : RdN w (.slice a n cap) s.length (flatSt s)) : Calls Try.prog 3 #[.slice a n cap] w fun e w' => e = .returned (.bool true) ∧ Below w.heap.size w w' :=
  lawIsMacro_walk a n cap s w hn hm h (fun v s w hl hr => implIsMacro_any v s w (by unfold maxLen; omega) hr)
theorem lawMacroReports_all (a : Option Addr) (n cap : Nat) (l : List Hd) (b : Option Addr) (m cap2 : Nat) (s : List St) (w : World) (hn : l.length = n) (hm : n ≤ maxLen) (h : RdN w (.slice a n cap) l.length (flatHd l)) (hn2 : s.length = m) (hm2 : m ≤ maxLen) (h2 : RdN w (.slice b m cap2) s.length (flatSt s)) :
    Calls Try.prog 4 #[.slice a n cap, .slice b m cap2] w fun e w' => e = .returned (.bool true) ∧ Below w.heap.size w w' :=
  lawMacroReports_walk a n cap l b m cap2 s w hn hm h hn2 hm2 h2 (fun v vs l s w hl hs h h2 => implMacroReports_any v vs l s w (by unfold maxLen; omega) (by unfold maxLen; omega) h h2)

end Go.Proofs.Ytnfnhbldphiohaa
