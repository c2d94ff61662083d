/- DERIVED. Timings: both sides' IsTiming. No condition. -/
import Derived.Test.YtagmdkblcgnddaaTmDef
import Derived.Test.YtagmdkblcgnddaaInts
namespace Go.Proofs.Ytagmdkblcgnddaa
open Go.RowKit

abbrev tmv (t q f : Int) : Value := .agg #[.int .i64 t, .int .i64 q, .int .i64 f]
theorem between_q (n a b : Int) (v : Bool) (hv : v = inB n a b) (w : World) : Calls Try.prog 67 #[.int .i64 n, .int .i64 a, .int .i64 b] w fun e w' => e = .returned (.bool v) ∧ w = w' := by
  unfold inB at hv
  by_cases h0 : a ≤ n
  · by_cases h1 : n ≤ b
    · rw [decide_eq_true ⟨h0, h1⟩] at hv
      subst hv
      go_enter Try.func67, Try.ntmps67
      go_wp2
      go_ret
      exact ⟨rfl, rfl⟩
    · rw [decide_eq_false (by omega)] at hv
      subst hv
      go_enter Try.func67, Try.ntmps67
      go_wp2
      go_ret
      exact ⟨rfl, rfl⟩
  · rw [decide_eq_false (by omega)] at hv
    subst hv
    go_enter Try.func67, Try.ntmps67
    go_wp2
    go_ret
    exact ⟨rfl, rfl⟩

end Go.Proofs.Ytagmdkblcgnddaa
