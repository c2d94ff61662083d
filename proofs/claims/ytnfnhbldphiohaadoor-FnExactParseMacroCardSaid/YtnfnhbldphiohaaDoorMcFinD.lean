/- DERIVED. The exact laws of FormatMacro and ParseMacro and the law FnMacros, over the program's own functions, where the listed tables are as their texts lay them. -/
import Derived.Test.YtnfnhbldphiohaaDoorMcTxI
import Derived.Test.YtnfnhbldphiohaaDoorMcFol
import Derived.Test.YtnfnhbldphiohaaDoorMcRepI
import Derived.Test.YtnfnhbldphiohaaDoorStOpen
namespace Go.Proofs.YtnfnhbldphiohaaDoor
open Go.RowKit

theorem lawFormatMacro_all (a : Option Addr) (n cap : Nat) (s : List St) (w : World) (ht : AcTabs w) (hn : s.length = n) (hm : n ≤ maxLen) (h : RdN w (.slice a n cap) s.length (flatSt s)) : Calls Tryd.prog 4 #[.slice a n cap] w fun e w' => e = .returned (.bool true) ∧ Below w.heap.size w w' :=
  lawFormatMacro_walk a n cap s w hn hm h (fun v s w' hb hl hr => implFormatMacro_any v s w' (ht.below hb) hl hr)
theorem lawParseMacro_all (s : ByteArray) (w : World) (ht : AcTabs w) (hM : MaxInt w) : Calls Tryd.prog 5 #[.string s] w fun e w' => e = .returned (.bool true) ∧ Below w.heap.size w w' :=
  lawParseMacro_walk s w (fun s w' hb hl => implParseMacro_any s w' (ht.below hb) (hM.below hb) hl)
theorem wf_bytes8 {zs : List Int} (hz : ∀ z ∈ zs, (Lit.int .u8 z).wf = true) : ∀ z ∈ zs, 0 ≤ z ∧ z < 256 := fun z hm => by
  have h := hz z hm
  simp [Lit.wf, IntKind.min, IntKind.max, IntKind.signed, IntKind.bits] at h
  omega
theorem lawMacros_all (a0 : Option Addr) (len cap0 : Nat) (bs : List Int) (w : World) (ht : AcTabs w) (hM : MaxInt w) (hlen : bs.length = len) (hz : ∀ z ∈ bs, (Lit.int .u8 z).wf = true) (h : Rd w (.slice a0 len cap0) (bs.map (.int .u8))) : Calls Tryd.prog 3 #[.slice a0 len cap0] w fun e w' => e = .returned (.bool true) ∧ Below w.heap.size w w' :=
  lawMacros_walk a0 len cap0 bs w hlen (wf_bytes8 hz) h
    (fun v vs l s w hl hs h1 h2 => (implMacroReports_any v vs l s w (by unfold maxLen; omega) (by unfold maxLen; omega) h1 h2).mono fun _ _ h => h)
    (fun v s w hl hr => implIsMacro_any v s w (by unfold maxLen; omega) hr)
    (fun v s w' hb hl hr => implFormatMacro_any v s w' (ht.below hb) hl hr)
    (fun s w' hb hl => implParseMacro_any s w' (ht.below hb) (hM.below hb) hl)

end Go.Proofs.YtnfnhbldphiohaaDoor
