/- DERIVED. The laws of chapter 6 that lean on tables, over the program's own contracts. -/
import Derived.Test.YtleheibpgngmiaaDoorKmLawD
import Derived.Test.YtleheibpgngmiaaDoorKmOpen
import Derived.Test.YtleheibpgngmiaaDoorKmTxI
import Derived.Test.YtleheibpgngmiaaDoorKmPaI
import Derived.Test.YtleheibpgngmiaaDoorKmImpl3
import Derived.Test.YtleheibpgngmiaaDoorKmImpl5
import Derived.Test.YtleheibpgngmiaaDoorKmImpl7
import Derived.Test.YtleheibpgngmiaaDoorKmNum
import Derived.Test.YtleheibpgngmiaaDoorKmFol
namespace Go.Proofs.YtleheibpgngmiaaDoor
open Go.RowKit
theorem lawFormatKeymap_all (k : Int) (u : Value) (L : List (List Ac)) (w : World) (hn : L.length ≤ maxLen) (hm : ∀ l ∈ L, l.length ≤ maxLen) (h : LdS w u L) (ht : AcTabs w) : Calls Tryd.prog 6 #[kmv k u] w fun e w' => e = .returned (.bool true) ∧ Below w.heap.size w w' :=
  lawFormatKeymap_walk k u L w hn hm h (fun w' u' hb h' => implFormatKeymap_any k u' L w' (ht.below hb) hn hm h')
theorem lawParseKeymap_all (s : ByteArray) (w : World) (ht : AcTabs w) (hM : MaxInt w) : Calls Tryd.prog 7 #[.string s] w fun e w' => e = .returned (.bool true) ∧ Below w.heap.size w w' :=
  lawParseKeymap_walk s w (fun hl w' hb => implParseKeymap_any s w' (ht.below hb) (hM.below hb) hl)
theorem lawNumbers_all (a0 : Option Addr) (len cap0 : Nat) (bs : List Int) (w : World) (hlen : bs.length = len) (hz : ∀ z ∈ bs, (Lit.int .u8 z).wf = true) (h : Rd w (.slice a0 len cap0) (bs.map (.int .u8))) (ht : Lib.TabIs Tryd.prog w "internal/strconv.uint64pow10" .u64 Lib.pow10Tab) : Calls Tryd.prog 3 #[.slice a0 len cap0] w fun e w' => e = .returned (.bool true) ∧ Below w.heap.size w w' :=
  lawNumbers_walk a0 len cap0 bs w hlen hz h ht (fun u L w' _ hn hm h' => (implPackKeymap_any 3 u L w' hn hm h').mono fun _ _ hp => byOut hp)
theorem lawActions_all (a0 : Option Addr) (len cap0 : Nat) (bs : List Int) (w : World) (hlen : bs.length = len) (hz : ∀ z ∈ bs, (Lit.int .u8 z).wf = true) (h : Rd w (.slice a0 len cap0) (bs.map (.int .u8))) (ht : AcTabs w) : Calls Tryd.prog 4 #[.slice a0 len cap0] w fun e w' => e = .returned (.bool true) ∧ Below w.heap.size w w' :=
  lawActions_walk a0 len cap0 bs w hlen hz h ht
    (fun a w' _ => (implPackAction_any a.k a.c a.m a.n w').mono fun _ _ hp => byOut hp)
    (fun u zs z b w' hzb _ hl hz' h' => by have := implUnpackAction_q u zs (z, b) hzb w' hl hz' h'; exact this)
theorem lawKeymaps_all (a0 : Option Addr) (len cap0 : Nat) (bs : List Int) (w : World) (hlen : bs.length = len) (hz : ∀ z ∈ bs, (Lit.int .u8 z).wf = true) (h : Rd w (.slice a0 len cap0) (bs.map (.int .u8))) (ht : AcTabs w) (hM : MaxInt w) : Calls Tryd.prog 5 #[.slice a0 len cap0] w fun e w' => e = .returned (.bool true) ∧ Below w.heap.size w w' :=
  lawKeymaps_walk a0 len cap0 bs w hlen hz h
    { fmt := fun u L T w' hT hb hn hm h' => by rw [hT]; exact implFormatKeymap_any _ u L w' (ht.below hb) hn hm h'
      prs := fun s r w' hr hb hl => by rw [hr]; exact implParseKeymap_any s w' (ht.below hb) (hM.below hb) hl
      pck := fun u L zs w' hz' _ hn hm h' => by rw [hz']; exact (implPackKeymap_any _ u L w' hn hm h').mono fun _ _ hp => byOut hp
      unp := fun a c zs r w' hr _ hl hz' hc h' => by rw [hr]; exact implUnpackKeymap_any a zs.length c zs w' rfl hl hc hz' h'
      set := fun u L layer key k c m n r w' hr _ hn hm h' => by rw [hr]; exact implSetAction_any _ layer key k c m n u L w' hn hm h'
      isk := fun u L b w' hb' _ hn hm h' => implIsKeymap_q _ u L b hb' w' hn hm h' }

end Go.Proofs.YtleheibpgngmiaaDoor
