/- DERIVED. The laws' functions on events, as the laws call them: what is returned, and which memory holds it. -/
import Derived.Test.YtjfckchoklepbaaEvSpec3
import Derived.Test.YtjfckchoklepbaaCore
namespace Go.Proofs.Ytjfckchoklepbaa
open Go.RowKit

theorem toEventS_law (v : Value) (l : List Ev) (w : World) (hl : l.length ≤ 1048576) (h : RdN w v l.length (flatEv l)) :
    Calls Try.prog 30 #[v] w fun e w' => ∃ a c fp, e = .returned (.slice a l.length c) ∧ OwF w' w.heap.size 55 3 (.slice a l.length c) l.length (flatEv l) fp ∧ Below w.heap.size w w' :=
  (toEventS_any v l w hl h).mono fun e w' ⟨u, he, ho, hb⟩ => by
    obtain ⟨a, c, fp, rfl, h⟩ := OwF.shape ho
    exact ⟨a, c, fp, he, h, hb⟩
/-- Events that are returned with a Bool, as the laws call it. -/
def EvOutL (R : List Ev) (b : Bool) (w : World) (e : Ending) (w' : World) : Prop :=
  ∃ a c fp, e = .returned (.tuple #[.slice a R.length c, .bool b]) ∧ OwF w' w.heap.size 55 3 (.slice a R.length c) R.length (flatEv R) fp ∧ Below w.heap.size w w'
theorem evOutL {R : List Ev} {b : Bool} {w w' : World} {e : Ending} (h : EvOut R b w e w') : EvOutL R b w e w' := by
  obtain ⟨u, he, ho, hb⟩ := h
  obtain ⟨a, c, fp, rfl, h⟩ := OwF.shape ho
  exact ⟨a, c, fp, he, h, hb⟩
/-- Numbers that are returned with a Bool, as the laws call it. -/
def IntsOutL (R : List Int) (b : Bool) (w : World) (e : Ending) (w' : World) : Prop :=
  ∃ a c fp, e = .returned (.tuple #[.slice a R.length c, .bool b]) ∧ OwC w' w.heap.size (.row [.int .i64]) (.slice a R.length c) (.row (ones R)) fp ∧ Below w.heap.size w w'
theorem evsR_len (zs : List Int) : (evsR zs).1.length ≤ 1048576 := by
  unfold evsR
  split
  · rename_i h
    unfold evsOk at h
    simp only [Bool.and_eq_true] at h
    have := of_decide_eq_true h.2
    show (evN zs zs.length).length ≤ _
    omega
  · simp
theorem masksR_len (l : List Ev) (n : Int) : (masksR l n).1.length ≤ 1048576 := by
  unfold masksR
  split
  · rename_i h
    have := of_decide_eq_true (show decide (0 ≤ n ∧ n ≤ 200) = true from h.2)
    show (masksV l n.toNat).length ≤ _
    rw [masksV_len]; omega
  · simp
theorem relR_len (l : List Ev) (time : Int) : (relREvs l time).1.length ≤ 1048576 := by
  unfold relREvs
  split
  · rename_i h
    unfold relOkEvs okEvs at h
    simp only [Bool.and_eq_true] at h
    have := of_decide_eq_true h.2.1.2
    show (relEvs l time).length ≤ _
    omega
  · simp

end Go.Proofs.Ytjfckchoklepbaa
