/- DERIVED. Eight exact laws of chapter 6 and the law of layers, over the program's own contracts. -/
import Derived.Test.YtleheibpgngmiaaKmLaw2
import Derived.Test.YtleheibpgngmiaaKmMake
import Derived.Test.YtleheibpgngmiaaKmOpen
import Derived.Test.YtleheibpgngmiaaKmImpl2
import Derived.Test.YtleheibpgngmiaaKmImpl4
import Derived.Test.YtleheibpgngmiaaKmImpl6
import Derived.Test.YtleheibpgngmiaaKmImpl8
namespace Go.Proofs.Ytleheibpgngmiaa
open Go.RowKit
theorem lawIsKeymap_all (k : Int) (u : Value) (L : List (List Ac)) (w : World) (hn : L.length ≤ maxLen) (hm : ∀ l ∈ L, l.length ≤ maxLen) (h : LdS w u L) : Calls Try.prog 4 #[kmv k u] w fun e w' => e = .returned (.bool true) ∧ Below w.heap.size w w' :=
  lawIsKeymap_walk k u L w hn hm h (fun w' u' _ h' => implIsKeymap_any k u' L w' hn hm h')
theorem lawLayerAt_all (k : Int) (u : Value) (L : List (List Ac)) (on key : Int) (w : World) (hn : L.length ≤ maxLen) (hm : ∀ l ∈ L, l.length ≤ maxLen) (h : LdS w u L) : Calls Try.prog 5 #[kmv k u, .int .i64 on, .int .i64 key] w fun e w' => e = .returned (.bool true) ∧ Below w.heap.size w w' :=
  lawLayerAt_walk k on key u L w hn hm h (fun w' u' _ h' => implLayerAt_any k on key u' L w' hn hm h')
theorem lawActionAt_all (k : Int) (u : Value) (L : List (List Ac)) (on key : Int) (w : World) (hn : L.length ≤ maxLen) (hm : ∀ l ∈ L, l.length ≤ maxLen) (h : LdS w u L) : Calls Try.prog 6 #[kmv k u, .int .i64 on, .int .i64 key] w fun e w' => e = .returned (.bool true) ∧ Below w.heap.size w w' :=
  lawActionAt_walk k on key u L w hn hm h (fun w' u' _ h' => implActionAt_any k on key u' L w' hn hm h')
theorem lawSetAction_all (k : Int) (u : Value) (L : List (List Ac)) (layer key ek ec em en : Int) (w : World) (hn : L.length ≤ maxLen) (hm : ∀ l ∈ L, l.length ≤ maxLen) (h : LdS w u L) : Calls Try.prog 7 #[kmv k u, .int .i64 layer, .int .i64 key, acv ek ec em en] w fun e w' => e = .returned (.bool true) ∧ Below w.heap.size w w' :=
  lawSetAction_walk k layer key ek ec em en u L w hn hm h (fun w' u' _ h' => implSetAction_any k layer key ek ec em en u' L w' hn hm h')
theorem lawPackAction_all (ek ec em en : Int) (w : World) : Calls Try.prog 8 #[acv ek ec em en] w fun e w' => e = .returned (.bool true) ∧ Below w.heap.size w w' :=
  lawPackAction_walk ek ec em en w (fun w' _ => (implPackAction_any ek ec em en w').mono fun _ _ hp => byOut hp)
theorem lawUnpackAction_all (a : Option Addr) (n cap : Nat) (zs : List Int) (w : World) (hn : zs.length = n) (hm : n ≤ maxLen) (hz : ∀ z ∈ zs, 0 ≤ z ∧ z < 256) (h : Rd w (.slice a n cap) (zs.map (.int .u8))) : Calls Try.prog 9 #[.slice a n cap] w fun e w' => e = .returned (.bool true) ∧ Below w.heap.size w w' :=
  lawUnpackAction_walk a n cap zs w hn hm hz h (fun w' u' _ h' => implUnpackAction_any u' zs w' (by rw [hn]; exact hm) hz h')
theorem lawPackKeymap_all (k : Int) (u : Value) (L : List (List Ac)) (w : World) (hn : L.length ≤ maxLen) (hm : ∀ l ∈ L, l.length ≤ maxLen) (h : LdS w u L) : Calls Try.prog 10 #[kmv k u] w fun e w' => e = .returned (.bool true) ∧ Below w.heap.size w w' :=
  lawPackKeymap_walk k u L w hn hm h (fun w' u' _ h' => (implPackKeymap_any k u' L w' hn hm h').mono fun _ _ hp => byOut hp)
theorem lawUnpackKeymap_all (a : Option Addr) (n cap : Nat) (zs : List Int) (w : World) (hn : zs.length = n) (hm : n ≤ maxLen) (hz : ∀ z ∈ zs, 0 ≤ z ∧ z < 256) (h : Rd w (.slice a n cap) (zs.map (.int .u8))) : Calls Try.prog 11 #[.slice a n cap] w fun e w' => e = .returned (.bool true) ∧ Below w.heap.size w w' :=
  lawUnpackKeymap_walk a n cap zs w hn hm hz h (fun w' a' c' _ hc h' => implUnpackKeymap_any a' zs.length c' zs w' rfl (by rw [hn]; exact hm) hc hz h')
theorem lawLayers_all (a0 : Option Addr) (len cap0 : Nat) (bs : List Int) (w : World) (hlen : bs.length = len) (hz : ∀ z ∈ bs, (Lit.int .u8 z).wf = true) (h : Rd w (.slice a0 len cap0) (bs.map (.int .u8))) : Calls Try.prog 3 #[.slice a0 len cap0] w fun e w' => e = .returned (.bool true) ∧ Below w.heap.size w w' :=
  lawLayers_walk a0 len cap0 bs w hlen hz h
    (fun keys on key v L r hr w' _ hn hm h' => by rw [hr]; exact implLayerAt_any keys on key v L w' hn hm h')
    (fun keys on key v L r hr w' _ hn hm h' => by rw [hr]; exact implActionAt_any keys on key v L w' hn hm h')

end Go.Proofs.Ytleheibpgngmiaa
