/- DERIVED. The laws FnReadings and FnAccepted: each, called with any slice of bytes, returns true and changes nothing that was there. -/
import Derived.Test.YtoapbpkhnfbloaaMxImpl3
import Derived.Test.YtoapbpkhnfbloaaMxPure2
import Derived.Test.YtoapbpkhnfbloaaMxDraw
namespace Go.Proofs.Ytoapbpkhnfbloaa
open Go.RowKit

theorem big_any (a : Option Addr) (n cap : Nat) (w : World) : Calls Try.prog 4 #[.slice a n cap] w fun e w' => e = .returned (.bool (decide ((1048576 : Int) < n))) ∧ w = w' := by
  go_enter Try.func4, Try.ntmps4
  go_wp2
  go_ret
  exact ⟨rfl, rfl⟩

theorem wf_byte {n : Int} (h : (Lit.int .u8 n).wf = true) : 0 ≤ n ∧ n < 256 := by
  simp [Lit.wf, IntKind.min, IntKind.max, IntKind.signed, IntKind.bits] at h
  omega

theorem sub_and_left {a b : Nat} : sub (a &&& b) a := fun i hi => by rw [Nat.testBit_and, Bool.and_eq_true] at hi; exact hi.1
theorem sub_and_right {a b : Nat} : sub (a &&& b) b := fun i hi => by rw [Nat.testBit_and, Bool.and_eq_true] at hi; exact hi.2

end Go.Proofs.Ytoapbpkhnfbloaa
