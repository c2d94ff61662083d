/- DERIVED. The program's IsReport and SameReport: each returns what a plain function says. -/
import Derived.Test.YtghijkpcmamebaaRpSpec2
import Derived.Test.YtghijkpcmamebaaAcImpl
namespace Go.Proofs.Ytghijkpcmamebaa
open Go.RowKit

/-- The code ahead of place j, 0 at the start. -/
def lastN (zs : List Int) (j : Nat) : Int := if j = 0 then 0 else zs.getD (j - 1) 0
theorem lastN_in {zs : List Int} {j : Nat} (h : rpN zs j = true) : 0 ≤ lastN zs j ∧ lastN zs j ≤ 56 := by
  rw [lastN]
  split
  · omega
  · rename_i hj
    have h1 := rpN_at h (j - 1) (by omega)
    rw [rpAt, Bool.and_eq_true] at h1
    have h2 := of_decide_eq_true h1.1
    omega
theorem rpAt_last {zs : List Int} {j : Nat} (h : rpN zs j = true) : rpAt zs j = inB (zs.getD j 0) (lastN zs j + 1) 56 := by
  have h1 := lastN_in h
  rw [rpAt, lastN] at *
  by_cases hj : j = 0
  · subst hj; simp [inB]
  · rw [if_neg hj] at h1 ⊢
    have hd : decide (j = 0) = false := decide_eq_false hj
    rw [hd, Bool.false_or, Bool.eq_iff_iff, Bool.and_eq_true]
    unfold inB
    simp only [decide_eq_true_eq]
    omega

set_option maxRecDepth 100000 in
set_option maxHeartbeats 4000000 in
theorem implIsReport_any (r : Int) (u : Value) (zs : List Int) (w : World) (hl : zs.length ≤ maxLen) (h : Rd w u (zs.map (.int .i64))) :
    Calls Try.prog 16 #[rpv r u] w fun e w' => e = .returned (.bool (okRp r zs)) ∧ Below w.heap.size w w' := by
  unfold maxLen at hl
  obtain ⟨v, hv⟩ : ∃ v, v = okRp r zs := ⟨_, rfl⟩
  rw [← hv]
  obtain ⟨V, hV⟩ : ∃ V, V = inB r 0 15 := ⟨_, rfl⟩
  have hv2 : v = (rpN zs zs.length && V) := by rw [hv, hV]; rfl
  have HV := Lib.hid hV
  have HVV := Lib.hid hv2
  clear hv hV hv2
  rcases rd_ints h with ⟨rfl, a, cap, rfl⟩ | ⟨b, off, cap, hpos, rfl, hlt, hc⟩
  · clear h
    obtain rfl : v = V := HVV.out
    obtain ⟨W, hW⟩ : ∃ W, W = w.alloc (.cells #[.int .i64 r, .slice a 0 cap] 28) := ⟨_, rfl⟩
    have HX0 := Lib.hid (show Bxd W w.heap.size [.int .i64 r, .slice a 0 cap] by rw [hW]; exact Bxd.new _ _ _)
    have HB0 := Lib.hid (show Below w.heap.size w W by rw [hW]; exact (Below.refl _ _).alloc (Nat.le_refl _) _)
    have HS0 := Lib.hid (show w.heap.size < W.heap.size by rw [hW]; simp)
    have HW := Lib.hid hW
    clear hW
    go_enter Try.func16, Try.ntmps16
    go_wp2
    rw [← HW.out]
    have c0 := HX0.out.at 0 _ rfl
    have c1 := HX0.out.at 1 _ rfl
    refine wp_loop_rounds 1 ?_
    rw [rounds_succ]
    go_wp2_with fail
    refine (isBetween_any r 0 15 _).mono ?_
    rw [← HV.out]
    rintro e w0 ⟨rfl, rfl⟩
    go_wp2
    go_ret
    exact ⟨rfl, HB0.out⟩
  · have HC := Lib.hid hc
    obtain ⟨N, hN⟩ : ∃ N, N = zs.length := ⟨_, rfl⟩
    rw [← hN] at hl hpos ⊢
    have HNN := Lib.hid hN
    clear h hc hN
    obtain ⟨W, hW⟩ : ∃ W, W = w.alloc (.cells #[.int .i64 r, .slice (some ⟨b, off, none⟩) N cap] 28) := ⟨_, rfl⟩
    have HX0 := Lib.hid (show Bxd W w.heap.size [.int .i64 r, .slice (some ⟨b, off, none⟩) N cap] by rw [hW]; exact Bxd.new _ _ _)
    have HB0 := Lib.hid (show Below w.heap.size w W by rw [hW]; exact (Below.refl _ _).alloc (Nat.le_refl _) _)
    have HS0 := Lib.hid (show w.heap.size < W.heap.size by rw [hW]; simp)
    have HW := Lib.hid hW
    clear hW
    go_enter Try.func16, Try.ntmps16
    go_wp2
    rw [← HW.out]
    have c0 := HX0.out.at 0 _ rfl
    have c1 := HX0.out.at 1 _ rfl
    go_wp2
    clear c1
    go_loopw [3, 5, 9] (fun s _ i wr => ∃ (j : Nat), j ≤ N ∧ i = .int .i64 j ∧ s = .int .i64 (lastN zs j) ∧ rpN zs j = true ∧ wr = W) (fun _ _ i _ => N - (intOf i).toNat)
    case atStart => exact ⟨0, Nat.zero_le _, rfl, rfl, rfl, rfl⟩
    case round =>
      obtain ⟨j, hj, rfl, rfl, hp, rfl⟩ := hrel
      by_cases hlt' : j < N
      · have d1 : wr.cell? ⟨b, off + j, none⟩ = some (.int .i64 (zs.getD j 0)) := (HB0.out.cell (p := ⟨b, off + j, none⟩) hlt).trans (HC.out j (by rw [← HNN.out]; exact hlt'))
        have hbad : rpAt zs j = false → v = false := fun h0 => by rw [HVV.out, rpN_no h0 _ (by rw [← HNN.out]; exact hlt'), Bool.false_and]
        have hnx : rpAt zs j = true → rpN zs (j + 1) = true := fun h0 => by rw [rpN, hp, h0]; rfl
        rw [rpAt_last hp] at hbad hnx
        obtain ⟨hl0, hl5⟩ := lastN_in hp
        have hls : lastN zs (j + 1) = zs.getD j 0 := by rw [lastN, if_neg (by omega)]; rfl
        obtain ⟨z, hz⟩ : ∃ z, z = zs.getD j 0 := ⟨_, rfl⟩
        obtain ⟨L, hL⟩ : ∃ L, L = lastN zs j := ⟨_, rfl⟩
        rw [← hz] at d1 hbad hnx hls
        rw [← hL] at hbad hnx hl0 hl5 ⊢
        obtain ⟨q, hq⟩ : ∃ q, q = inB z (L + 1) 56 := ⟨_, rfl⟩
        rw [← hq] at hbad hnx
        have HBad := Lib.hid hbad
        have HNX := Lib.hid hnx
        have HQ := Lib.hid hq
        have HLS := Lib.hid hls
        clear hbad hnx hq hz hp hls hL
        go_wp2_with fail
        refine (isBetween_any z (L + 1) 56 _).mono ?_
        rw [← HQ.out]
        rintro e w2 ⟨rfl, rfl⟩
        cases q
        · obtain rfl : v = false := HBad.out rfl
          go_wp2
          go_ret
          exact ⟨rfl, HB0.out⟩
        · have HT := Lib.hid (HNX.out rfl)
          go_wp2
          go_roundw
          case rel => exact ⟨j + 1, by omega, by go_num, by rw [HLS.out], HT.out, by first | rfl | trivial⟩
          case measure => simp [intOf]; omega
      · obtain rfl : j = N := by omega
        obtain rfl : v = V := by rw [HVV.out, ← HNN.out, hp, Bool.true_and]
        go_wp2_with fail
        refine (isBetween_any r 0 15 _).mono ?_
        rw [← HV.out]
        rintro e w0 ⟨rfl, rfl⟩
        go_wp2
        go_ret
        exact ⟨rfl, HB0.out⟩
theorem implIsReport_q (r : Int) (u : Value) (zs : List Int) (o : Bool) (ho : o = okRp r zs) (w : World) (hl : zs.length ≤ maxLen) (h : Rd w u (zs.map (.int .i64))) :
    Calls Try.prog 16 #[rpv r u] w fun e w' => e = .returned (.bool o) ∧ Below w.heap.size w w' := by
  rw [ho]; exact implIsReport_any r u zs w hl h

set_option maxRecDepth 100000 in
set_option maxHeartbeats 4000000 in
theorem slicesEqual_any (u1 u2 : Value) (z1 z2 : List Int) (w : World) (hl1 : z1.length ≤ maxLen) (h1 : Rd w u1 (z1.map (.int .i64))) (h2 : Rd w u2 (z2.map (.int .i64))) :
    Calls Try.prog 47 #[u1, u2] w fun e w' => e = .returned (.bool (decide (z1 = z2))) ∧ Below w.heap.size w w' := by
  unfold maxLen at hl1
  obtain ⟨v, hv⟩ : ∃ v, v = decide (z1 = z2) := ⟨_, rfl⟩
  rw [← hv]
  have HV := Lib.hid hv
  clear hv
  obtain ⟨a1, c1, hu1⟩ : ∃ a cap, u1 = .slice a z1.length cap := by obtain ⟨a, cap, hu, _⟩ := h1; exact ⟨a, cap, by simpa using hu⟩
  obtain ⟨a2, c2, hu2⟩ : ∃ a cap, u2 = .slice a z2.length cap := by obtain ⟨a, cap, hu, _⟩ := h2; exact ⟨a, cap, by simpa using hu⟩
  subst hu1 hu2
  have H1 := Lib.hid h1
  have H2 := Lib.hid h2
  clear h1 h2
  by_cases hn : z1.length = z2.length
  · obtain ⟨N, hN⟩ : ∃ N, N = z1.length := ⟨_, rfl⟩
    have HNN := Lib.hid hN
    have HN2 := Lib.hid hn
    rw [← hn, ← hN]
    rw [← hN] at hl1
    clear hN
    rcases rd_ints H1.out with ⟨hz, a, cap, hs⟩ | ⟨b, off, cap, hpos, hs, hlt, hc⟩
    · have hN0 : N = 0 := by rw [HNN.out, hz]; rfl
      have hz2 : z2 = [] := List.eq_nil_of_length_eq_zero (by rw [← hn, ← HNN.out, hN0])
      obtain rfl : v = true := by rw [HV.out]; exact decide_eq_true (by rw [hz, hz2])
      subst hN0
      clear hs hn
      go_enter Try.func47, Try.ntmps47
      go_wp2
      refine wp_loop_rounds 1 ?_
      rw [rounds_succ]
      go_wp2
      go_ret
      exact ⟨rfl, Below.refl _ _⟩
    · rcases rd_ints H2.out with ⟨hz, _⟩ | ⟨b2, off2, cap2, _, hs2, hlt2, hc2⟩
      · exfalso; rw [hn, hz] at hpos; simp at hpos
      · have e1 : a1 = some ⟨b, off, none⟩ := by simp only [Value.slice.injEq] at hs; exact hs.1
        have e2 : a2 = some ⟨b2, off2, none⟩ := by simp only [Value.slice.injEq] at hs2; exact hs2.1
        subst e1 e2
        have HC := Lib.hid hc
        have HC2 := Lib.hid hc2
        clear hc hc2 hn hs hs2
        go_enter Try.func47, Try.ntmps47
        go_wp2
        go_loopw [5, 13] (fun _ i wr => ∃ (k : Nat), k ≤ N ∧ i = .int .i64 k ∧ (∀ q, q < k → z1.getD q 0 = z2.getD q 0) ∧ Below w.heap.size w wr) (fun _ i _ => N - (intOf i).toNat)
        case atStart => exact ⟨0, Nat.zero_le _, rfl, fun q hq => absurd hq (Nat.not_lt_zero _), Below.refl _ _⟩
        case round =>
          obtain ⟨k, hk, rfl, hp, hb⟩ := hrel
          by_cases hlt' : k < N
          · have d1 := (hb.cell (p := ⟨b, off + k, none⟩) hlt).trans (HC.out k (by rw [← HNN.out]; exact hlt'))
            have d2 := (hb.cell (p := ⟨b2, off2 + k, none⟩) hlt2).trans (HC2.out k (by rw [← HN2.out, ← HNN.out]; exact hlt'))
            have hbad : z1.getD k 0 ≠ z2.getD k 0 → v = false := fun h0 => by rw [HV.out]; exact decide_eq_false (fun h => h0 (by rw [h]))
            have hnx : z1.getD k 0 = z2.getD k 0 → ∀ q, q < k + 1 → z1.getD q 0 = z2.getD q 0 := fun h0 q hq => by
              rcases Nat.lt_or_ge q k with h3 | h3
              · exact hp q h3
              · obtain rfl : q = k := by omega
                exact h0
            have HBad := Lib.hid hbad
            have HNX := Lib.hid hnx
            have HB := Lib.hid hb
            clear hbad hnx hb hp
            obtain ⟨p1, hp1⟩ : ∃ x, x = z1.getD k 0 := ⟨_, rfl⟩
            obtain ⟨p2, hp2⟩ : ∃ x, x = z2.getD k 0 := ⟨_, rfl⟩
            rw [← hp1] at d1 HBad HNX
            rw [← hp2] at d2 HBad HNX
            clear hp1 hp2
            by_cases he : p1 = p2
            · have HT := Lib.hid (HNX.out he)
              subst he
              go_wp2
              go_quiet (fail)
              go_wp2
              go_roundw
              case rel => exact ⟨k + 1, by omega, by go_num, HT.out, below_drewN HB.out _⟩
              case measure => simp [intOf]; omega
            · obtain rfl : v = false := HBad.out he
              go_wp2
              go_quiet (fail)
              go_wp2
              go_ret
              exact ⟨rfl, below_drewN HB.out _⟩
          · obtain rfl : k = N := by omega
            obtain rfl : v = true := by
              rw [HV.out]
              exact decide_eq_true (take_sameI HN2.out (fun q hq => hp q (by rw [HNN.out]; exact hq)))
            go_wp2
            go_ret
            exact ⟨rfl, hb⟩
  · obtain rfl : v = false := by rw [HV.out]; exact decide_eq_false (fun h => hn (by rw [h]))
    have hne : ¬ ((z1.length : Int) = (z2.length : Int)) := by omega
    obtain ⟨n1, hn1⟩ : ∃ n, n = z1.length := ⟨_, rfl⟩
    obtain ⟨n2, hn2⟩ : ∃ n, n = z2.length := ⟨_, rfl⟩
    rw [← hn1, ← hn2] at hne ⊢
    rw [← hn1] at hl1
    clear hn hn1 hn2
    go_enter Try.func47, Try.ntmps47
    go_wp2
    go_ret
    exact ⟨rfl, Below.refl _ _⟩

set_option maxRecDepth 100000 in
set_option maxHeartbeats 4000000 in
theorem implSameReport_any (r1 : Int) (u1 : Value) (z1 : List Int) (r2 : Int) (u2 : Value) (z2 : List Int) (w : World) (hl1 : z1.length ≤ maxLen) (h1 : Rd w u1 (z1.map (.int .i64))) (h2 : Rd w u2 (z2.map (.int .i64))) :
    Calls Try.prog 17 #[rpv r1 u1, rpv r2 u2] w fun e w' => e = .returned (.bool (sameRp r1 z1 r2 z2)) ∧ Below w.heap.size w w' := by
  obtain ⟨v, hv⟩ : ∃ v, v = sameRp r1 z1 r2 z2 := ⟨_, rfl⟩
  rw [← hv]
  have HV := Lib.hid hv
  clear hv
  obtain ⟨a1, c1, hu1⟩ : ∃ a cap, u1 = .slice a z1.length cap := by obtain ⟨a, cap, hu, _⟩ := h1; exact ⟨a, cap, by simpa using hu⟩
  obtain ⟨a2, c2, hu2⟩ : ∃ a cap, u2 = .slice a z2.length cap := by obtain ⟨a, cap, hu, _⟩ := h2; exact ⟨a, cap, by simpa using hu⟩
  subst hu1 hu2
  obtain ⟨n1, hn1⟩ : ∃ n, n = z1.length := ⟨_, rfl⟩
  obtain ⟨n2, hn2⟩ : ∃ n, n = z2.length := ⟨_, rfl⟩
  obtain ⟨W, hW⟩ : ∃ W, W = (w.alloc (.cells #[.int .i64 r1, .slice a1 n1 c1] 28)).alloc (.cells #[.int .i64 r2, .slice a2 n2 c2] 28) := ⟨_, rfl⟩
  have hB0 : Below w.heap.size w W := by rw [hW]; exact ((Below.refl _ _).alloc (Nat.le_refl _) _).alloc (by simp) _
  have k1 : W.heap[w.heap.size]? = some (.cells #[.int .i64 r1, .slice a1 n1 c1] 28 (0, 0)) := by
    rw [hW, Below.heap_alloc _ _ _ (by simp)]; exact heap_alloc_new w _
  have k2 : W.heap[w.heap.size + 1]? = some (.cells #[.int .i64 r2, .slice a2 n2 c2] 28 (0, 0)) := by
    rw [hW]; simpa using heap_alloc_new (w.alloc (.cells #[.int .i64 r1, .slice a1 n1 c1] 28)) _
  have K1 := Lib.hid k1
  have K2 := Lib.hid k2
  have H1 := Lib.hid (show Rd W (.slice a1 n1 c1) (z1.map (.int .i64)) by rw [hn1]; exact h1.below hB0)
  have H2 := Lib.hid (show Rd W (.slice a2 n2 c2) (z2.map (.int .i64)) by rw [hn2]; exact h2.below hB0)
  have HB0 := Lib.hid hB0
  have HW := Lib.hid hW
  have HL1 := Lib.hid hl1
  rw [← hn1, ← hn2]
  clear hW hB0 k1 k2 h1 h2 hn1 hn2 hl1
  go_enter Try.func17, Try.ntmps17
  go_upto_region 1 with (fail)
  rw [← HW.out]
  have x0 := (cells_of_heap K1.out 0 (by simp)).1
  have x1 := (cells_of_heap K1.out 1 (by simp)).1
  have y0 := (cells_of_heap K2.out 0 (by simp)).1
  have y1 := (cells_of_heap K2.out 1 (by simp)).1
  simp only [List.getElem_toArray, List.getElem_cons_zero, List.getElem_cons_succ] at x0 x1 y0 y1
  by_cases hr : r1 = r2
  · have HK := Lib.hid (show v = decide (z1 = z2) by rw [HV.out, sameRp]; simp [hr])
    subst hr
    go_wp2_with fail
    refine (slicesEqual_any _ _ z1 z2 _ HL1.out H1.out H2.out).mono ?_
    rw [← HK.out]
    rintro e w2 ⟨rfl, hb⟩
    have HB2 := Lib.hid (HB0.out.trans (hb.mono HB0.out.size))
    clear hb x0 x1 y0 y1
    go_wp2
    go_ret
    exact ⟨rfl, HB2.out⟩
  · obtain rfl : v = false := by rw [HV.out]; exact decide_eq_false (fun h => hr h.1)
    go_wp2
    go_ret
    exact ⟨rfl, HB0.out⟩

end Go.Proofs.Ytghijkpcmamebaa
