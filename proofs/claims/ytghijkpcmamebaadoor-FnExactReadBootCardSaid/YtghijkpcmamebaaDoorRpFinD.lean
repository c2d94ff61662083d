/- DERIVED. Exact laws of chapter 7 and FnReports over the program's own contracts, where the listed tables are as their texts lay them. -/
import Derived.Test.YtghijkpcmamebaaDoorRpLawD
import Derived.Test.YtghijkpcmamebaaDoorRpLaw2
import Derived.Test.YtghijkpcmamebaaDoorRpFol
import Derived.Test.YtghijkpcmamebaaDoorRpTxI
import Derived.Test.YtghijkpcmamebaaDoorRpBoot
import Derived.Test.YtghijkpcmamebaaDoorRpImpl
import Derived.Test.YtghijkpcmamebaaDoorRpOpen
namespace Go.Proofs.YtghijkpcmamebaaDoor
open Go.RowKit

theorem fmtAt {w : World} (ht : TabH w 1 nmTab) (r : Int) (u : Value) (zs : List Int) (w' : World) (hb : Below w.heap.size w w') (hl : zs.length ≤ maxLen) (h : Rd w' u (zs.map (.int .i64))) :
    Calls Tryd.prog 11 #[rpv r u] w' fun e w'' => e = .returned (.string (rpT r zs)) ∧ Below w'.heap.size w' w'' := implFormatReport_any r u zs w' (ht.below hb ht.lt) hl h
theorem parAt {w : World} (ht : TabH w 1 nmTab) (s : ByteArray) (w' : World) (hb : Below w.heap.size w w') (hl : s.size ≤ 1048576) :
    Calls Tryd.prog 10 #[.string s] w' (RpTO (prV s) w') := (implParseReport_any s w' (ht.below hb ht.lt) hl).mono fun _ _ hp => rpTO hp (by have := prV_len s hl; omega)
theorem bootByAt {w : World} (hc : CrH w 0) (r : Int) (u : Value) (zs : List Int) (w' : World) (hb : Below w.heap.size w w') (hl : zs.length ≤ maxLen) (h : Rd w' u (zs.map (.int .i64))) :
    Calls Tryd.prog 15 #[rpv r u] w' (ByOut (bbV r zs) w') := (implBootBytes_any r u zs w' (hc.below hb hc.lt) hl h).mono fun _ _ hp => byOut hp
theorem bootRdAt {w : World} (hc : CrH w 0) (v : Value) (zs : List Int) (rl : Int) (u : Value) (zl : List Int) (w' : World) (hb : Below w.heap.size w w') (hl : zs.length ≤ maxLen) (hcap : CapOk v) (hz : ∀ z ∈ zs, 0 ≤ z ∧ z < 256) (h : Rd w' v (zs.map (.int .u8))) (hzl : zl.length ≤ 1048576) (hu : Rd w' u (zl.map (.int .i64))) :
    Calls Tryd.prog 14 #[v, rpv rl u] w' (RpTO (rbV zs rl zl) w') := (implReadBoot_any v zs rl u zl w' (hc.below hb hc.lt) hl hcap hz h hzl hu).mono fun _ _ hp => rpTO hp (rbV_len zs rl zl hzl)
theorem wf_bytes {zs : List Int} (hz : ∀ z ∈ zs, (Lit.int .u8 z).wf = true) : ∀ z ∈ zs, 0 ≤ z ∧ z < 256 := fun z hm => by
  have h := hz z hm
  simp [Lit.wf, IntKind.min, IntKind.max, IntKind.signed, IntKind.bits] at h
  omega
theorem lawFormatReport_all (r : Int) (a : Option Addr) (m cap : Nat) (zs : List Int) (w : World) (ht : TabH w 1 nmTab) (hm : zs.length = m) (hml : m ≤ maxLen) (h : Rd w (.slice a m cap) (zs.map (.int .i64))) :
    Calls Tryd.prog 4 #[rpv r (.slice a m cap)] w fun e w' => e = .returned (.bool true) ∧ Below w.heap.size w w' :=
  lawFormatReport_walk r a m cap zs w hm hml h (fmtAt ht)
theorem lawParseReport_all (s : ByteArray) (w : World) (ht : TabH w 1 nmTab) :
    Calls Tryd.prog 5 #[.string s] w fun e w' => e = .returned (.bool true) ∧ Below w.heap.size w w' :=
  lawParseReport_walk s w (parAt ht)
theorem lawBootBytes_all (r : Int) (a : Option Addr) (m cap : Nat) (zs : List Int) (w : World) (hc : CrH w 0) (hm : zs.length = m) (hml : m ≤ maxLen) (h : Rd w (.slice a m cap) (zs.map (.int .i64))) :
    Calls Tryd.prog 6 #[rpv r (.slice a m cap)] w fun e w' => e = .returned (.bool true) ∧ Below w.heap.size w w' :=
  lawBootBytes_walk r a m cap zs w hm hml h (bootByAt hc)
theorem lawReadBoot_all (a : Option Addr) (n cap : Nat) (zs : List Int) (rl : Int) (b : Option Addr) (m cap2 : Nat) (zl : List Int) (w : World) (hc : CrH w 0) (hn : zs.length = n) (hm : n ≤ maxLen) (hz : ∀ z ∈ zs, (Lit.int .u8 z).wf = true) (h : Rd w (.slice a n cap) (zs.map (.int .u8))) (hn2 : zl.length = m) (hm2 : m ≤ maxLen) (h2 : Rd w (.slice b m cap2) (zl.map (.int .i64))) :
    Calls Tryd.prog 7 #[.slice a n cap, rpv rl (.slice b m cap2)] w fun e w' => e = .returned (.bool true) ∧ Below w.heap.size w w' :=
  lawReadBoot_walk a n cap zs rl b m cap2 zl w hn hm (wf_bytes hz) h hn2 hm2 h2 (bootRdAt hc)
theorem lawReports_all (a0 : Option Addr) (len cap0 : Nat) (bs : List Int) (w : World) (ht : TabH w 1 nmTab) (hc : CrH w 0) (hlen : bs.length = len) (hz : ∀ z ∈ bs, (Lit.int .u8 z).wf = true) (h : Rd w (.slice a0 len cap0) (bs.map (.int .u8))) :
    Calls Tryd.prog 3 #[.slice a0 len cap0] w fun e w' => e = .returned (.bool true) ∧ Below w.heap.size w w' :=
  lawReports_walk a0 len cap0 bs w hlen (wf_bytes hz) h (fmtAt ht) (parAt ht) (fun r u zs w hl hr => (implBitBytes_any r u zs w hl hr).mono fun _ _ hp => byOut hp) (fun v zs w hl hz hr => implReadBits_any v zs w hl hz hr) (bootByAt hc) (bootRdAt hc) (fun r1 u1 z1 r2 u2 z2 w hl1 _ hr1 hr2 => implSameReport_any r1 u1 z1 r2 u2 z2 w hl1 hr1 hr2)

end Go.Proofs.YtghijkpcmamebaaDoor
