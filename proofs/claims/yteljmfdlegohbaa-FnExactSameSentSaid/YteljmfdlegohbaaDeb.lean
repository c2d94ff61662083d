/- DERIVED. The laws' own functions on debouncers: the size of one, a copy of it, two that are alike, its marks. Called with a debouncer whose ages read as known numbers. · The reference's functions of chapter 3 on debouncers, each called with a debouncer whose ages read as known numbers: it returns what a plain function says. -/
import Derived.Test.YteljmfdlegohbaaInts
import Derived.WalkSmall
import Derived.Test.YteljmfdlegohbaaCore
import Derived.Deep.RegionHeld3
namespace Go.Proofs.Yteljmfdlegohbaa
open Go.RowKit

abbrev dbv (k t n s l : Int) (u : Value) : Value := .agg #[.int .i64 k, .int .i64 t, .int .i64 n, .int .i64 s, .int .i64 l, u]
abbrev dbV (k t n s l : Int) (u : Value) : List Value := [.int .i64 k, .int .i64 t, .int .i64 n, .int .i64 s, .int .i64 l, u]
def dbS : List Sh := [.int .i64, .int .i64, .int .i64, .int .i64, .int .i64, .row [.int .i64]]
def dbC (k t n s l : Int) (zs : List Int) : List Ce := [.int k, .int t, .int n, .int s, .int l, .row (ones zs)]

theorem szIntS_any (a : Option Addr) (n cap : Nat) (left : Int) (w : World) (hl : 0 ≤ left) (hl' : left ≤ 1099511627776) (hn : n ≤ maxLen) : Calls Try.prog 141 #[.slice a n cap, .int .i64 left] w fun e w' => e = .returned (.int .i64 (if left < n then -1 else left - n)) ∧ w = w' := by
  unfold maxLen at hn
  by_cases h : left < (n : Int)
  · rw [if_pos h]
    go_enter Try.func141, Try.ntmps141
    go_wp2
    go_ret
    exact ⟨rfl, rfl⟩
  · rw [if_neg h]
    go_enter Try.func141, Try.ntmps141
    go_wp2
    go_ret
    exact ⟨rfl, rfl⟩

def allIn (lo hi : Int) (zs : List Int) : Bool := zs.all fun z => inB z lo hi
theorem allIn_take {lo hi : Int} {zs : List Int} {j : Nat} (h : allIn lo hi (zs.take j) = true) (hj : j < zs.length) (hz : inB (zs.getD j 0) lo hi = true) : allIn lo hi (zs.take (j + 1)) = true := by
  unfold allIn at h ⊢
  rw [List.take_succ_eq_append_getElem hj, List.all_append, h]
  have e : zs.getD j 0 = zs[j] := by simp [List.getElem?_eq_getElem hj]
  rw [e] at hz
  simp [hz]
theorem allIn_false {lo hi : Int} {zs : List Int} {j : Nat} (hj : j < zs.length) (hz : inB (zs.getD j 0) lo hi = false) : allIn lo hi zs = false := by
  unfold allIn
  rw [List.all_eq_false]
  refine ⟨zs[j], List.getElem_mem hj, ?_⟩
  have e : zs.getD j 0 = zs[j] := by simp [List.getElem?_eq_getElem hj]
  rw [e] at hz
  simp [hz]
def okDeb (k t n s l : Int) (zs : List Int) : Bool :=
  inB k 0 2 && inB t 1 20 && inB n 1 24 && decide ((zs.length : Int) = n) && allIn 0 99 zs && inB s 0 (2 ^ n.toNat - 1) && inB l 0 (2 ^ n.toNat - 1)


end Go.Proofs.Yteljmfdlegohbaa
