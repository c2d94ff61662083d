/- DERIVED. The reference's HeldAfter, EventsOf, MasksOf and ReleaseAll, each called with data that reads as known: it returns what a plain function says. -/
import Derived.Test.YtjfckchoklepbaaEvSpec
import Derived.Test.YtjfckchoklepbaaSeqSpec
import Derived.Deep.AppendLies
namespace Go.Proofs.Ytjfckchoklepbaa
open Go.RowKit

theorem allIn_of' {lo hi : Int} {xs : List Int} (h : ∀ i, i < xs.length → inB (xs.getD i 0) lo hi = true) : allIn lo hi xs = true := by
  unfold allIn
  rw [List.all_eq_true]
  intro x hx
  obtain ⟨i, hi, rfl⟩ := List.getElem_of_mem hx
  have := h i hi
  simpa [List.getElem?_eq_getElem hi] using this
/-- The changes of the keys below n from the mask last to the mask z, at the time i. -/
def evAt (last z : Int) (i : Nat) : Nat → List Ev
  | 0 => []
  | k + 1 => if bz z k = bz last k then evAt last z i k else evAt last z i k ++ [⟨i, k, hz z k⟩]
theorem evAt_len (last z : Int) (i n : Nat) : (evAt last z i n).length ≤ n := by
  induction n with
  | zero => exact Nat.le_refl _
  | succ n ih =>
    rw [evAt]
    split
    · omega
    · simp; omega
def evN (zs : List Int) : Nat → List Ev
  | 0 => []
  | j + 1 => evN zs j ++ evAt (prevZ zs j) (zs.getD j 0) j 32
theorem evN_len (zs : List Int) (j : Nat) : (evN zs j).length ≤ j * 32 := by
  induction j with
  | zero => exact Nat.le_refl _
  | succ j ih => rw [evN, List.length_append]; have := evAt_len (prevZ zs j) (zs.getD j 0) j 32; omega
def evsOk (zs : List Int) : Bool := decide (zs.length ≤ 200) && allIn 0 4294967295 zs && decide ((evN zs zs.length).length ≤ 64)
def evsR (zs : List Int) : List Ev × Bool := if evsOk zs = true then (evN zs zs.length, true) else ([], false)
/-- What a function returns that returns events and a Bool. -/
def EvOut (R : List Ev) (b : Bool) (w : World) (e : Ending) (w' : World) : Prop :=
  ∃ u, e = .returned (.tuple #[u, .bool b]) ∧ w'.ownsRow w.heap.size 55 3 u R.length (flatEv R) ∧ Below w.heap.size w w'

end Go.Proofs.Ytjfckchoklepbaa
