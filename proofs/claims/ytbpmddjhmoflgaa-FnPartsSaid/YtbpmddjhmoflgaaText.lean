/- DERIVED. Bytes of a text, and the row of the table of types that a string has. -/
import Derived.Test.YtbpmddjhmoflgaaBase
import Derived.Test.YtbpmddjhmoflgaaProg
namespace Go.Proofs.Ytbpmddjhmoflgaa
open Go.RowKit

theorem info_str : (Try.prog.info? 9).map (fun i => (i.zero, i.size, i.bytes)) = some (some (.string ByteArray.empty), 1, 16) := by kernel_rfl

/-- Byte number i of a text. -/
def bt (s : ByteArray) (i : Nat) : Int := if h : i < s.size then ((s[i]'h).toNat : Int) else 0
theorem bt_eq (s : ByteArray) (i : Nat) (h : i < s.size) : ((s[i]'h).toNat : Int) = bt s i := by unfold bt; rw [dif_pos h]
theorem bt_bound (s : ByteArray) (i : Nat) : 0 ≤ bt s i ∧ bt s i < 256 := by
  unfold bt; split
  · rename_i h; have := (s[i]'h).toNat_lt; omega
  · omega

end Go.Proofs.Ytbpmddjhmoflgaa
