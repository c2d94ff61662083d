/- DERIVED. The reference's NewDebouncer, called with any numbers: a debouncer that shows no key, or none. -/
import Derived.Test.YtjfckchoklepbaaDeb
import Derived.Laws.AppendOwn
namespace Go.Proofs.Ytjfckchoklepbaa
open Go.RowKit

def okNew (k t n : Int) : Bool := inB k 0 2 && inB t 1 20 && inB n 1 24
theorem allIn_rep (j : Nat) : allIn 0 99 (List.replicate j 99) = true := by
  unfold allIn
  rw [List.all_replicate]
  simp [inB]
theorem okDeb_new (k t n : Int) (j : Nat) (h : 1 ≤ n → n ≤ 24 → (j : Int) = n) : okDeb k t n 0 0 (List.replicate j 99) = okNew k t n := by
  unfold okDeb okNew
  rw [allIn_rep, List.length_replicate]
  cases hn : inB n 1 24
  · simp
  · have hn' := of_decide_eq_true (show decide (1 ≤ n ∧ n ≤ 24) = true from hn)
    have e1 : decide ((j : Int) = n) = true := decide_eq_true (h hn'.1 hn'.2)
    have e2 : inB 0 0 (2 ^ n.toNat - 1) = true := by
      unfold inB
      have h1 := pow_nat n.toNat
      have h2 : 0 < 2 ^ n.toNat := Nat.two_pow_pos _
      exact decide_eq_true (by rw [h1]; omega)
    rw [e1, e2]
    simp

abbrev zeroDb : Value := dbv 0 0 0 0 0 (.slice none 0 0)
theorem replicate_snoc (j : Nat) (x : Int) : List.replicate (j + 1) x = List.replicate j x ++ [x] := by
  rw [List.replicate_succ']

/-- What NewDebouncer returns. -/
def NewDeb (k t n : Int) (w : World) (e : Ending) (w' : World) : Prop :=
  if okNew k t n = true then ∃ u, e = .returned (.tuple #[dbv k t n 0 0 u, .bool true]) ∧ w'.ownsRow w.heap.size 3 1 u n.toNat ((List.replicate n.toNat (99 : Int)).map (.int .i64)) ∧ Below w.heap.size w w'
  else e = .returned (.tuple #[zeroDb, .bool false]) ∧ Below w.heap.size w w'

end Go.Proofs.Ytjfckchoklepbaa
