/- DERIVED. The reference's l1In: called with any numbers, it tells whether the first lies between the others. -/
import Derived.Test.YtghijkpcmamebaaCore
import Derived.Test.YtghijkpcmamebaaProg
import Derived.WalkSmall
namespace Go.Proofs.Ytghijkpcmamebaa
open Go.RowKit

theorem l1In_any (x a b : Int) (w : World) : Calls Try.prog 49 #[.int .i64 x, .int .i64 a, .int .i64 b] w fun e w' => e = .returned (.bool (decide (a ≤ x ∧ x ≤ b))) ∧ w = w' := by
  by_cases h1 : a ≤ x
  · by_cases h2 : x ≤ b
    · rw [decide_eq_true ⟨h1, h2⟩]
      go_enter Try.func49, Try.ntmps49
      go_wp2
      go_ret
      exact ⟨rfl, rfl⟩
    · rw [decide_eq_false (fun h => h2 h.2)]
      go_enter Try.func49, Try.ntmps49
      go_wp2
      go_ret
      exact ⟨rfl, rfl⟩
  · rw [decide_eq_false (fun h => h1 h.1)]
    go_enter Try.func49, Try.ntmps49
    go_wp2
    go_ret
    exact ⟨rfl, rfl⟩

def inB (x a b : Int) : Bool := decide (a ≤ x ∧ x ≤ b)
theorem inB_q (x a b : Int) (v : Bool) (hv : v = inB x a b) (w : World) : Calls Try.prog 49 #[.int .i64 x, .int .i64 a, .int .i64 b] w fun e w' => e = .returned (.bool v) ∧ w' = w :=
  (l1In_any x a b w).mono fun _ _ ⟨he, hw⟩ => ⟨by rw [he, hv]; rfl, hw.symm⟩
theorem inB_any (x a b : Int) (w : World) : Calls Try.prog 49 #[.int .i64 x, .int .i64 a, .int .i64 b] w fun e w' => e = .returned (.bool (inB x a b)) ∧ w = w' := l1In_any x a b w

end Go.Proofs.Ytghijkpcmamebaa
