/- DERIVED. The program's own small functions on debouncers (hasKey, isMaskOf, isSwitch) and its IsDebouncer: each, called with whatever values, returns what a plain function says. -/
import Derived.Test.YteljmfdlegohbaaSeqSpec
import Derived.Test.YteljmfdlegohbaaDeb
import Derived.Test.YteljmfdlegohbaaCore
namespace Go.Proofs.Yteljmfdlegohbaa
open Go.RowKit

theorem hasKey_any (z : Int) (k : Nat) (w : World) (hk : k < 62) : Calls Try.prog 161 #[.int .i64 z, .int .i64 k] w fun e w' => e = .returned (.bool (hz z k)) ∧ w = w' := by
  rcases bz01 z k with h | h
  · have hv : hz z k = false := by unfold hz; rw [h]; rfl
    rw [hv]
    unfold bz at h
    clear hv
    go_enter Try.func161, Try.ntmps161
    go_wp2
    go_ret
    exact ⟨rfl, rfl⟩
  · have hv : hz z k = true := by unfold hz; rw [h]; rfl
    rw [hv]
    unfold bz at h
    clear hv
    go_enter Try.func161, Try.ntmps161
    go_wp2
    go_ret
    exact ⟨rfl, rfl⟩

theorem isMaskOf_any (n : Nat) (x : Int) (w : World) (hn : n ≤ 60) : Calls Try.prog 156 #[.int .i64 n, .int .i64 x] w fun e w' => e = .returned (.bool (inB x 0 (2 ^ n - 1))) ∧ w = w' := by
  have hw := wrap64_pow62 (k := n) (by omega)
  have hpn := pow_nat n
  obtain ⟨p, hp⟩ : ∃ p, p = 2 ^ n := ⟨_, rfl⟩
  rw [← hp] at hw hpn
  rw [hpn]
  obtain ⟨v, hv⟩ : ∃ v, v = inB x 0 ((p : Int) - 1) := ⟨_, rfl⟩
  rw [← hv]
  unfold inB at hv
  clear hpn hp
  by_cases h0 : 0 ≤ x
  · by_cases h1 : x < (p : Int)
    · rw [decide_eq_true ⟨h0, by omega⟩] at hv
      subst hv
      go_enter Try.func156, Try.ntmps156
      go_wp2
      go_ret
      exact ⟨rfl, rfl⟩
    · rw [decide_eq_false (by omega)] at hv
      subst hv
      go_enter Try.func156, Try.ntmps156
      go_wp2
      go_ret
      exact ⟨rfl, rfl⟩
  · rw [decide_eq_false (by omega)] at hv
    subst hv
    go_enter Try.func156, Try.ntmps156
    go_wp2
    go_ret
    exact ⟨rfl, rfl⟩

end Go.Proofs.Yteljmfdlegohbaa
