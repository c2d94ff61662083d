/- DERIVED. The laws' sameInts and sameEvents, called with slices that read as the same data: true. -/
import Derived.Test.YtkhakelhfnoeoaaDoorEvSpec
import Derived.Test.YtkhakelhfnoeoaaDoorSeqSpec
namespace Go.Proofs.YtkhakelhfnoeoaaDoor
open Go.RowKit

theorem sameEvents_same (va vb : Value) (l : List Ev) (w : World) (hl : l.length ≤ 1000000000000) (ha : RdN w va l.length (flatEv l)) (hb : RdN w vb l.length (flatEv l)) :
    Calls Tryd.prog 12 #[va, vb] w fun e w' => e = .returned (.bool true) ∧ ∃ n, w' = w.drewN n := by
  rcases rd_evs ha with ⟨rfl, a, cap, rfl⟩ | ⟨b, off, cap, hpos, rfl, hlt, hc⟩
  · obtain ⟨a2, cap2, rfl, _⟩ := hb
    clear ha
    go_enter Tryd.func12, Tryd.ntmps12
    go_wp2
    refine wp_loop_rounds 1 ?_
    rw [rounds_succ]
    go_wp2
    go_ret
    exact ⟨rfl, 0, rfl⟩
  · rcases rd_evs hb with ⟨hn, _⟩ | ⟨b2, off2, cap2, _, rfl, hlt2, hc2⟩
    · exfalso; rw [hn] at hpos; simp at hpos
    · have HC := Lib.hid hc
      have HC2 := Lib.hid hc2
      clear ha hb hc hc2
      go_enter Tryd.func12, Tryd.ntmps12
      go_wp2
      go_loopw [5] (fun i wr => ∃ (k m : Nat), k ≤ l.length ∧ i = .int .i64 k ∧ wr = w.drewN m) (fun i _ => l.length - (intOf i).toNat)
      case atStart => exact ⟨0, 0, Nat.zero_le _, rfl, rfl⟩
      case round =>
        obtain ⟨k, m, hk, rfl, rfl⟩ := hrel
        by_cases hlt' : k < l.length
        · obtain ⟨c0, c1, c2⟩ := HC.out k hlt'
          obtain ⟨d0, d1, d2⟩ := HC2.out k hlt'
          obtain ⟨e, he⟩ : ∃ e, e = evD l k := ⟨_, rfl⟩
          rw [← he] at c0 d0 c1 d1 c2 d2
          clear he
          obtain ⟨x0, x1, x2⟩ := e
          simp only at c0 d0 c1 d1 c2 d2
          go_wp2
          go_quiet (fail)
          go_wp2
          go_roundw
          case rel => exact ⟨k + 1, _, by omega, by go_num, rfl⟩
          case measure => simp [intOf]; omega
        · obtain rfl : k = l.length := by omega
          go_wp2
          go_ret
          exact ⟨rfl, m, rfl⟩

end Go.Proofs.YtkhakelhfnoeoaaDoor
