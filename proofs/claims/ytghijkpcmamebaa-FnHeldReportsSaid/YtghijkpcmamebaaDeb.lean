/- DERIVED. The laws' own functions on debouncers: the size of one, a copy of it, two that are alike, its marks. Called with a debouncer whose ages read as known numbers. -/
import Derived.Test.YtghijkpcmamebaaInts
import Derived.WalkSmall
namespace Go.Proofs.Ytghijkpcmamebaa
open Go.RowKit

abbrev dbv (k t n s l : Int) (u : Value) : Value := .agg #[.int .i64 k, .int .i64 t, .int .i64 n, .int .i64 s, .int .i64 l, u]
abbrev dbV (k t n s l : Int) (u : Value) : List Value := [.int .i64 k, .int .i64 t, .int .i64 n, .int .i64 s, .int .i64 l, u]
def dbS : List Sh := [.int .i64, .int .i64, .int .i64, .int .i64, .int .i64, .row [.int .i64]]
def dbC (k t n s l : Int) (zs : List Int) : List Ce := [.int k, .int t, .int n, .int s, .int l, .row (ones zs)]

theorem szIntS_any (a : Option Addr) (n cap : Nat) (left : Int) (w : World) (hl : 0 ≤ left) (hl' : left ≤ 1099511627776) (hn : n ≤ maxLen) : Calls Try.prog 57 #[.slice a n cap, .int .i64 left] w fun e w' => e = .returned (.int .i64 (if left < n then -1 else left - n)) ∧ w = w' := by
  unfold maxLen at hn
  by_cases h : left < (n : Int)
  · rw [if_pos h]
    go_enter Try.func57, Try.ntmps57
    go_wp2
    go_ret
    exact ⟨rfl, rfl⟩
  · rw [if_neg h]
    go_enter Try.func57, Try.ntmps57
    go_wp2
    go_ret
    exact ⟨rfl, rfl⟩

end Go.Proofs.Ytghijkpcmamebaa
