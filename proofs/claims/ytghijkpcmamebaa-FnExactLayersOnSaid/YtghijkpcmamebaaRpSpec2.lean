/- DERIVED. The reference's SameReport: two reports are alike. -/
import Derived.Test.YtghijkpcmamebaaRpSpec
import Derived.Deep.DeepCutAuto
namespace Go.Proofs.Ytghijkpcmamebaa
open Go.RowKit

def sameRp (r1 : Int) (z1 : List Int) (r2 : Int) (z2 : List Int) : Bool := decide (r1 = r2 ∧ z1 = z2)

set_option maxRecDepth 100000 in
set_option maxHeartbeats 4000000 in
theorem specSameReport_any (r1 : Int) (u1 : Value) (z1 : List Int) (r2 : Int) (u2 : Value) (z2 : List Int) (w : World) (hl1 : z1.length ≤ maxLen) (h1 : Rd w u1 (z1.map (.int .i64))) (h2 : Rd w u2 (z2.map (.int .i64))) :
    Calls Try.prog 32 #[rpv r1 u1, rpv r2 u2] w fun e w' => e = .returned (.bool (sameRp r1 z1 r2 z2)) ∧ Below w.heap.size w w' := by
  unfold maxLen at hl1
  obtain ⟨v, hv⟩ : ∃ v, v = sameRp r1 z1 r2 z2 := ⟨_, rfl⟩
  rw [← hv]
  have HV := Lib.hid hv
  clear hv
  obtain ⟨a1, c1, hu1⟩ : ∃ a cap, u1 = .slice a z1.length cap := by obtain ⟨a, cap, hu, _⟩ := h1; exact ⟨a, cap, by simpa using hu⟩
  obtain ⟨a2, c2, hu2⟩ : ∃ a cap, u2 = .slice a z2.length cap := by obtain ⟨a, cap, hu, _⟩ := h2; exact ⟨a, cap, by simpa using hu⟩
  subst hu1 hu2
  obtain ⟨W, hW⟩ : ∃ W, W = (w.alloc (.cells #[.int .i64 r1, .slice a1 z1.length c1] 28)).alloc (.cells #[.int .i64 r2, .slice a2 z2.length c2] 28) := ⟨_, rfl⟩
  have hB0 : Below w.heap.size w W := by rw [hW]; exact ((Below.refl _ _).alloc (Nat.le_refl _) _).alloc (by simp) _
  have k1 : W.heap[w.heap.size]? = some (.cells #[.int .i64 r1, .slice a1 z1.length c1] 28 (0, 0)) := by
    rw [hW, Below.heap_alloc _ _ _ (by simp)]; exact heap_alloc_new w _
  have k2 : W.heap[w.heap.size + 1]? = some (.cells #[.int .i64 r2, .slice a2 z2.length c2] 28 (0, 0)) := by
    rw [hW]; simpa using heap_alloc_new (w.alloc (.cells #[.int .i64 r1, .slice a1 z1.length c1] 28)) _
  have K1 := Lib.hid k1
  have K2 := Lib.hid k2
  have H1 := Lib.hid (h1.below hB0)
  have H2 := Lib.hid (h2.below hB0)
  have HB0 := Lib.hid hB0
  have HW := Lib.hid hW
  clear hW hB0 k1 k2 h1 h2
  go_enter Try.func32, Try.ntmps32
  go_upto_region 1 with (fail)
  rw [← HW.out]
  have x0 := (cells_of_heap K1.out 0 (by simp)).1
  have x1 := (cells_of_heap K1.out 1 (by simp)).1
  have y0 := (cells_of_heap K2.out 0 (by simp)).1
  have y1 := (cells_of_heap K2.out 1 (by simp)).1
  simp only [List.getElem_toArray, List.getElem_cons_zero, List.getElem_cons_succ] at x0 x1 y0 y1
  by_cases hr : r1 = r2
  · by_cases hn : z1.length = z2.length
    · subst hr
      obtain ⟨N, hN⟩ : ∃ N, N = z1.length := ⟨_, rfl⟩
      have HNN := Lib.hid hN
      have HN2 := Lib.hid hn
      rw [← hn, ← hN] at y1
      rw [← hN] at x1 hl1
      clear hN
      rcases rd_ints H1.out with ⟨hz, a, cap, hs⟩ | ⟨b, off, cap, hpos, hs, hlt, hc⟩
      · have hN0 : N = 0 := by rw [HNN.out, hz]; rfl
        have hz2 : z2 = [] := List.eq_nil_of_length_eq_zero (by rw [← hn, ← HNN.out, hN0])
        obtain rfl : v = true := by rw [HV.out]; exact decide_eq_true ⟨rfl, by rw [hz, hz2]⟩
        subst hN0
        clear hs
        go_wp2
        refine wp_loop_rounds 1 ?_
        rw [rounds_succ]
        go_wp2
        go_ret
        exact ⟨rfl, HB0.out⟩
      · rcases rd_ints H2.out with ⟨hz, _⟩ | ⟨b2, off2, cap2, _, hs2, hlt2, hc2⟩
        · exfalso; rw [hn, hz] at hpos; simp at hpos
        · have e1 : a1 = some ⟨b, off, none⟩ := by simp only [Value.slice.injEq] at hs; exact hs.1
          have e2 : a2 = some ⟨b2, off2, none⟩ := by simp only [Value.slice.injEq] at hs2; exact hs2.1
          rw [e1] at x1
          rw [e2] at y1
          have X0 := Lib.hid x0
          have X1 := Lib.hid x1
          have Y0 := Lib.hid y0
          have Y1 := Lib.hid y1
          have HC := Lib.hid hc
          have HC2 := Lib.hid hc2
          have S1 := Lib.hid (Array.getElem?_eq_some_iff.mp K1.out).1
          have S2 := Lib.hid (Array.getElem?_eq_some_iff.mp K2.out).1
          go_wp2
          clear x0 x1 y0 y1 hc hc2
          go_loopw [5] (fun i wr => ∃ (k : Nat), k ≤ N ∧ i = .int .i64 k ∧ (∀ q, q < k → z1.getD q 0 = z2.getD q 0) ∧ Below W.heap.size W wr) (fun i _ => N - (intOf i).toNat)
          case atStart => exact ⟨0, Nat.zero_le _, rfl, fun q hq => absurd hq (Nat.not_lt_zero _), Below.refl _ _⟩
          case round =>
            obtain ⟨k, hk, rfl, hp, hb⟩ := hrel
            have x1 := (hb.cell (p := ⟨w.heap.size, 1, none⟩) S1.out).trans X1.out
            have y1 := (hb.cell (p := ⟨w.heap.size + 1, 1, none⟩) S2.out).trans Y1.out
            by_cases hlt' : k < N
            · have d1 := (hb.cell (p := ⟨b, off + k, none⟩) hlt).trans (HC.out k (by rw [← HNN.out]; exact hlt'))
              have d2 := (hb.cell (p := ⟨b2, off2 + k, none⟩) hlt2).trans (HC2.out k (by rw [← HN2.out, ← HNN.out]; exact hlt'))
              have hbad : z1.getD k 0 ≠ z2.getD k 0 → v = false := fun h0 => by rw [HV.out]; exact decide_eq_false (fun h => h0 (by rw [h.2]))
              have hnx : z1.getD k 0 = z2.getD k 0 → ∀ q, q < k + 1 → z1.getD q 0 = z2.getD q 0 := fun h0 q hq => by
                rcases Nat.lt_or_ge q k with h3 | h3
                · exact hp q h3
                · obtain rfl : q = k := by omega
                  exact h0
              have HBad := Lib.hid hbad
              have HNX := Lib.hid hnx
              have HB := Lib.hid hb
              clear hbad hnx hb hp
              obtain ⟨p1, hp1⟩ : ∃ x, x = z1.getD k 0 := ⟨_, rfl⟩
              obtain ⟨p2, hp2⟩ : ∃ x, x = z2.getD k 0 := ⟨_, rfl⟩
              rw [← hp1] at d1 HBad HNX
              rw [← hp2] at d2 HBad HNX
              clear hp1 hp2
              by_cases he : p1 = p2
              · have HT := Lib.hid (HNX.out he)
                subst he
                go_wp2
                go_quiet (fail)
                go_wp2
                go_roundw
                case rel => exact ⟨k + 1, by omega, by go_num, HT.out, below_drewN HB.out _⟩
                case measure => simp [intOf]; omega
              · obtain rfl : v = false := HBad.out he
                go_wp2
                go_quiet (fail)
                go_wp2
                go_ret
                exact ⟨rfl, HB0.out.trans (below_drewN HB.out _ |>.mono HB0.out.size)⟩
            · obtain rfl : k = N := by omega
              obtain rfl : v = true := by
                rw [HV.out]
                exact decide_eq_true ⟨rfl, take_sameI HN2.out (fun q hq => hp q (by rw [HNN.out]; exact hq))⟩
              go_wp2
              go_ret
              exact ⟨rfl, HB0.out.trans (hb.mono HB0.out.size)⟩
    · obtain rfl : v = false := by rw [HV.out]; exact decide_eq_false (fun h => hn (by rw [h.2]))
      have hne : ¬ ((z1.length : Int) = (z2.length : Int)) := by omega
      subst hr
      go_wp2
      go_ret
      exact ⟨rfl, HB0.out⟩
  · obtain rfl : v = false := by rw [HV.out]; exact decide_eq_false (fun h => hr h.1)
    go_wp2
    go_ret
    exact ⟨rfl, HB0.out⟩

end Go.Proofs.Ytghijkpcmamebaa
