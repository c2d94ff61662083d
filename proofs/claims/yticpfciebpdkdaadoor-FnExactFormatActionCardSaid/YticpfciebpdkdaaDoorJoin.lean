/- DERIVED. JoinText, the program's and the reference's: the elements of a slice of strings with a text between each two. Called with at most 1048576 strings whose joined text takes at most 70368744177664 bytes. -/
import Derived.Test.YticpfciebpdkdaaDoorStrs
import Derived.Test.YticpfciebpdkdaaDoorBuilder
namespace Go.Proofs.YticpfciebpdkdaaDoor
open Go.RowKit

theorem strCells_eq (s : ByteArray) : Lib.strCells s = Lib.byteCells s.data.toList := rfl
def nums (l : List UInt8) : List Int := l.map fun c => (c.toNat : Int)
theorem byteCells_eq (l : List UInt8) : Lib.byteCells l = (nums l).map (.int .u8) := by simp [Lib.byteCells, nums]
theorem strOfNums_nums (l : List UInt8) : strOfNums (nums l) = ⟨l.toArray⟩ := by
  unfold strOfNums nums
  congr 2
  rw [List.map_map]
  conv => rhs; rw [← List.map_id l]
  apply List.map_congr_left
  intro c _
  simp

/-- The joined bytes of the first k elements. -/
def jn (ss : List ByteArray) (sep : ByteArray) : Nat → List UInt8
  | 0 => []
  | k + 1 => (if 0 < k then jn ss sep k ++ sep.data.toList else jn ss sep k) ++ (ss.getD k ByteArray.empty).data.toList
theorem jn_first (ss : List ByteArray) (sep : ByteArray) : jn ss sep 1 = (ss.getD 0 ByteArray.empty).data.toList := by simp [jn]
theorem jn_later (ss : List ByteArray) (sep : ByteArray) {k : Nat} (h : 0 < k) : jn ss sep (k + 1) = jn ss sep k ++ sep.data.toList ++ (ss.getD k ByteArray.empty).data.toList := by rw [jn, if_pos h]
def joined (ss : List ByteArray) (sep : ByteArray) : ByteArray := ⟨(jn ss sep ss.length).toArray⟩

theorem size_toList (s : ByteArray) : s.data.toList.length = s.size := by rw [Array.length_toList]; rfl

theorem jn_le (m : Nat) (ss : List ByteArray) (sep : ByteArray) (h : ∀ s ∈ ss, s.size ≤ m) : ∀ k, k ≤ ss.length → (jn ss sep k).length ≤ k * (m + sep.size) := by
  intro k
  induction k with
  | zero => intro _; simp [jn]
  | succ k ih =>
    intro hk
    have hs : (ss.getD k ByteArray.empty).size ≤ m := by
      rw [List.getD_eq_getElem?_getD, List.getElem?_eq_getElem (by omega)]
      exact h _ (List.getElem_mem _)
    rcases Nat.eq_zero_or_pos k with rfl | hp
    · rw [jn_first, size_toList]; omega
    · rw [jn_later _ _ hp, List.length_append, List.length_append, size_toList, size_toList]
      have := ih (by omega)
      rw [Nat.add_mul]
      omega

end Go.Proofs.YticpfciebpdkdaaDoor
