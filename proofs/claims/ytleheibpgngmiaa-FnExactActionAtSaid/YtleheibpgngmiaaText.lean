/- DERIVED. Bytes of a text, and the row of the table of types that a string has. -/
import Derived.Test.YtleheibpgngmiaaCore
import Derived.Test.YtleheibpgngmiaaProg
import Derived.Laws.RangeAny
namespace Go.Proofs.Ytleheibpgngmiaa
open Go.RowKit

theorem info_str : (Try.prog.info? 9).map (fun i => (i.zero, i.size, i.bytes)) = some (some (.string ByteArray.empty), 1, 16) := by kernel_rfl

/-- Byte number i of a text. -/
def bt (s : ByteArray) (i : Nat) : Int := if h : i < s.size then ((s[i]'h).toNat : Int) else 0
theorem bt_eq (s : ByteArray) (i : Nat) (h : i < s.size) : ((s[i]'h).toNat : Int) = bt s i := by unfold bt; rw [dif_pos h]
theorem bt_bound (s : ByteArray) (i : Nat) : 0 ≤ bt s i ∧ bt s i < 256 := by
  unfold bt; split
  · rename_i h; have := (s[i]'h).toNat_lt; omega
  · omega

theorem toList_ne {x y : ByteArray} (h : x ≠ y) : (x.toList == y.toList) = false := by
  rw [ByteArray.toList_eq, ByteArray.toList_eq]
  apply beq_false_of_ne
  intro e
  apply h
  cases x; cases y
  simp at e
  simp [e]

theorem decode_at (s : ByteArray) (pos : Nat) (h : pos < s.size) : (bt s pos < 128 ∧ Utf8.decode s pos = ((bt s pos).toNat, 1)) ∨ (128 ≤ bt s pos ∧ 128 ≤ (Utf8.decode s pos).1) := by
  have hb := bt_eq s pos h
  by_cases ha : (s[pos]'h).toNat < 128
  · left
    refine ⟨by omega, ?_⟩
    rw [decode_ascii s pos h ha, ← hb]
    rfl
  · right
    exact ⟨by omega, (decode_high s pos h (by omega)).1⟩

theorem bt_nat (s : ByteArray) (i : Nat) : ((bt s i).toNat : Int) = bt s i := Int.toNat_of_nonneg (bt_bound s i).1


end Go.Proofs.Ytleheibpgngmiaa
