/- DERIVED. What the reference draws of chapter 3 by its cursor: samples, a new debouncer with samples. -/
import Derived.Test.YtjfckchoklepbaaDebNew
import Derived.Test.YtjfckchoklepbaaDraw
import Derived.Deep.DeepCutAuto
namespace Go.Proofs.Ytjfckchoklepbaa
open Go.RowKit

theorem okNew_mk {k t n : Int} (h0 : 0 ≤ k) (h1 : k ≤ 2) (h2 : 1 ≤ t) (h3 : t ≤ 20) (h4 : 1 ≤ n) (h5 : n ≤ 24) : okNew k t n = true := by
  unfold okNew inB
  rw [decide_eq_true ⟨h0, h1⟩, decide_eq_true ⟨h2, h3⟩, decide_eq_true ⟨h4, h5⟩]
  rfl

end Go.Proofs.Ytjfckchoklepbaa
