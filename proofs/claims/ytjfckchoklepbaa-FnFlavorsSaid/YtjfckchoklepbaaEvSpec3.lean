/- DERIVED. The reference's MasksOf and ReleaseAll, each called with events that read as known data: it returns what a plain function says. -/
import Derived.Test.YtjfckchoklepbaaEvSpec2
namespace Go.Proofs.Ytjfckchoklepbaa
open Go.RowKit

/-- How many events at the head are no later than i. -/
def lead (i : Int) : List Ev → Nat
  | [] => 0
  | e :: r => if e.t ≤ i then lead i r + 1 else 0
def advTo (l : List Ev) (i : Int) (s : Nat) : Nat := s + lead i (l.drop s)
theorem lead_le (i : Int) (l : List Ev) : lead i l ≤ l.length := by
  induction l with
  | nil => exact Nat.le_refl _
  | cons e l ih => rw [lead]; split <;> simp <;> omega
theorem advTo_le {l : List Ev} {i : Int} {s : Nat} (h : s ≤ l.length) : s ≤ advTo l i s ∧ advTo l i s ≤ l.length := by
  unfold advTo
  have := lead_le i (l.drop s)
  rw [List.length_drop] at this
  omega
theorem advTo_step {l : List Ev} {i : Int} {s : Nat} (h : s < l.length) (ht : (evD l s).t ≤ i) : advTo l i (s + 1) = advTo l i s := by
  unfold advTo
  rw [List.drop_eq_getElem_cons h, lead]
  rw [if_pos (show l[s].t ≤ i by unfold evD at ht; simpa [List.getElem?_eq_getElem h] using ht)]
  omega
theorem advTo_stop {l : List Ev} {i : Int} {s : Nat} (h : s < l.length) (ht : ¬ (evD l s).t ≤ i) : advTo l i s = s := by
  unfold advTo
  rw [List.drop_eq_getElem_cons h, lead]
  rw [if_neg (show ¬ l[s].t ≤ i by unfold evD at ht; simpa [List.getElem?_eq_getElem h] using ht)]
  omega
theorem advTo_end {l : List Ev} {i : Int} {s : Nat} (h : l.length ≤ s) : advTo l i s = s := by
  unfold advTo
  rw [List.drop_of_length_le h]; rfl
/-- How many events are taken ahead of the mask i. -/
def atEv (l : List Ev) : Nat → Nat
  | 0 => 0
  | i + 1 => advTo l i (atEv l i)
theorem atEv_le (l : List Ev) (i : Nat) : atEv l i ≤ l.length := by
  induction i with
  | zero => exact Nat.zero_le _
  | succ i ih => rw [atEv]; exact (advTo_le ih).2
def masksV (l : List Ev) (n : Nat) : List Int := (List.range n).map fun i => ((heldN l (atEv l (i + 1)) : Nat) : Int)
theorem masksV_len (l : List Ev) (n : Nat) : (masksV l n).length = n := by simp [masksV]
theorem masksV_snoc (l : List Ev) (n : Nat) : masksV l (n + 1) = masksV l n ++ [((heldN l (atEv l (n + 1)) : Nat) : Int)] := by simp [masksV, List.range_succ]
def masksR (l : List Ev) (n : Int) : List Int × Bool := if okEvs l = true ∧ inB n 0 200 = true then (masksV l n.toNat, true) else ([], false)
/-- What a function returns that returns numbers and a Bool. -/
def IntsOut (R : List Int) (b : Bool) (w : World) (e : Ending) (w' : World) : Prop :=
  ∃ u, e = .returned (.tuple #[u, .bool b]) ∧ w'.ownsRow w.heap.size 3 1 u R.length (R.map (.int .i64)) ∧ Below w.heap.size w w'

/-- The ups of the held keys below n, at the time. -/
def upsN (held : Nat) (time : Int) : Nat → List Ev
  | 0 => []
  | k + 1 => if held.testBit k = true then upsN held time k ++ [⟨time, k, false⟩] else upsN held time k
theorem upsN_len (held : Nat) (time : Int) (n : Nat) : (upsN held time n).length ≤ n := by
  induction n with
  | zero => exact Nat.le_refl _
  | succ n ih =>
    rw [upsN]
    split
    · simp; omega
    · omega
def relEvs (l : List Ev) (time : Int) : List Ev := l ++ upsN (heldV l) time 32
def relOkEvs (l : List Ev) (time : Int) : Bool := okEvs l && (okEvs (relEvs l time) && (inB time 0 1000000 && !(decide (0 < l.length) && decide (time < (evD l (l.length - 1)).t))))
def relREvs (l : List Ev) (time : Int) : List Ev × Bool := if relOkEvs l time = true then (relEvs l time, true) else ([], false)

end Go.Proofs.Ytjfckchoklepbaa
