/- DERIVED. The laws' bound on a text's length, and the reference's number for a law: called with any text, a number below the given one. -/
import Derived.Test.YtkhakelhfnoeoaaDraw
namespace Go.Proofs.Ytkhakelhfnoeoaa
open Go.RowKit

theorem big_any (a : Option Addr) (n cap : Nat) (w : World) : Calls Try.prog 10 #[.slice a n cap] w fun e w' => e = .returned (.bool (decide ((1048576 : Int) < n))) ∧ w = w' := by
  go_enter Try.func10, Try.ntmps10
  go_wp2
  go_ret
  exact ⟨rfl, rfl⟩

theorem wf_byte {n : Int} (h : (Lit.int .u8 n).wf = true) : 0 ≤ n ∧ n < 256 := by
  simp [Lit.wf, IntKind.min, IntKind.max, IntKind.signed, IntKind.bits] at h
  omega

end Go.Proofs.Ytkhakelhfnoeoaa
