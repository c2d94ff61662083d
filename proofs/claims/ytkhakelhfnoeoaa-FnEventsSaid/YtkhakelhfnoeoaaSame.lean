/- DERIVED. The laws' sameInts and sameEvents, called with slices that read as the same data: true. -/
import Derived.Test.YtkhakelhfnoeoaaEvSpec
import Derived.Test.YtkhakelhfnoeoaaSeqSpec
namespace Go.Proofs.Ytkhakelhfnoeoaa
open Go.RowKit

theorem sameInts_same (va vb : Value) (zs : List Int) (w : World) (hl : zs.length ≤ 1000000000000) (ha : Rd w va (zs.map (.int .i64))) (hb : Rd w vb (zs.map (.int .i64))) :
    Calls Try.prog 16 #[va, vb] w fun e w' => e = .returned (.bool true) ∧ ∃ n, w' = w.drewN n := by
  rcases rd_ints ha with ⟨rfl, a, cap, rfl⟩ | ⟨b, off, cap, hpos, rfl, hlt, hc⟩
  · obtain ⟨a2, cap2, rfl, _⟩ := hb
    clear ha
    go_enter Try.func16, Try.ntmps16
    go_wp2
    refine wp_loop_rounds 1 ?_
    rw [rounds_succ]
    go_wp2
    go_ret
    exact ⟨rfl, 0, rfl⟩
  · rcases rd_ints hb with ⟨hn, _⟩ | ⟨b2, off2, cap2, _, rfl, hlt2, hc2⟩
    · exfalso; rw [hn] at hpos; simp at hpos
    · have HC := Lib.hid hc
      have HC2 := Lib.hid hc2
      clear ha hb hc hc2
      go_enter Try.func16, Try.ntmps16
      go_wp2
      go_loopw [5] (fun i wr => ∃ (k m : Nat), k ≤ zs.length ∧ i = .int .i64 k ∧ wr = w.drewN m) (fun i _ => zs.length - (intOf i).toNat)
      case atStart => exact ⟨0, 0, Nat.zero_le _, rfl, rfl⟩
      case round =>
        obtain ⟨k, m, hk, rfl, rfl⟩ := hrel
        by_cases hlt' : k < zs.length
        · have hcell := HC.out k hlt'
          have hcell2 := HC2.out k hlt'
          obtain ⟨x, hxd⟩ : ∃ x, x = zs.getD k 0 := ⟨_, rfl⟩
          rw [← hxd] at hcell hcell2
          clear hxd
          go_wp2
          go_quiet (fail)
          go_wp2
          go_roundw
          case rel => exact ⟨k + 1, _, by omega, by go_num, rfl⟩
          case measure => simp [intOf]; omega
        · obtain rfl : k = zs.length := by omega
          go_wp2
          go_ret
          exact ⟨rfl, m, rfl⟩

end Go.Proofs.Ytkhakelhfnoeoaa
