/- DERIVED. The reference's IsHeld: it tells whether held keys are valid. · The reference's LayersOn: the layers that are on. -/
import Derived.Test.YteljmfdlegohbaaHd
import Derived.Test.YteljmfdlegohbaaAcOk
namespace Go.Proofs.Yteljmfdlegohbaa
open Go.RowKit

theorem bit_one (S K : Nat) (hS : S < 2 ^ 32) : bits .and .i64 ((S : Int) / 2 ^ K) 1 = ((if S.testBit K = true then 1 else 0 : Nat) : Int) := by
  have h1 : ((S : Int) / 2 ^ K) = ((S / 2 ^ K : Nat) : Int) := by simp
  have h2 : S / 2 ^ K ≤ S := Nat.div_le_self _ _
  rw [h1, show (1 : Int) = ((1 : Nat) : Int) from rfl, and_nat _ _ (by omega) (by omega), Nat.testBit_eq_decide_div_mod_eq, Nat.and_one_is_mod]
  rcases Nat.mod_two_eq_zero_or_one (S / 2 ^ K) with h | h <;> simp [h]

end Go.Proofs.Yteljmfdlegohbaa
