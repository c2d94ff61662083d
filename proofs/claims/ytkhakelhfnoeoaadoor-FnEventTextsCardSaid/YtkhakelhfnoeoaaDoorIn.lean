/- DERIVED. The reference's l1In: called with any numbers, it tells whether the first lies between the others. -/
import Derived.Test.YtkhakelhfnoeoaaDoorCore
import Derived.Test.YtkhakelhfnoeoaaDoorProg
import Derived.WalkSmall
namespace Go.Proofs.YtkhakelhfnoeoaaDoor
open Go.RowKit

theorem l1In_any (x a b : Int) (w : World) : Calls Tryd.prog 60 #[.int .i64 x, .int .i64 a, .int .i64 b] w fun e w' => e = .returned (.bool (decide (a ≤ x ∧ x ≤ b))) ∧ w = w' := by
  by_cases h1 : a ≤ x
  · by_cases h2 : x ≤ b
    · rw [decide_eq_true ⟨h1, h2⟩]
      go_enter Tryd.func60, Tryd.ntmps60
      go_wp2
      go_ret
      exact ⟨rfl, rfl⟩
    · rw [decide_eq_false (fun h => h2 h.2)]
      go_enter Tryd.func60, Tryd.ntmps60
      go_wp2
      go_ret
      exact ⟨rfl, rfl⟩
  · rw [decide_eq_false (fun h => h1 h.1)]
    go_enter Tryd.func60, Tryd.ntmps60
    go_wp2
    go_ret
    exact ⟨rfl, rfl⟩


end Go.Proofs.YtkhakelhfnoeoaaDoor
