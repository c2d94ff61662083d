/- DERIVED. The program's slices.Index and slices.Contains of numbers, and its NewKeys. -/
import Derived.Test.YteljmfdlegohbaaHoNew
import Derived.Test.YteljmfdlegohbaaRpImpl
namespace Go.Proofs.Yteljmfdlegohbaa
open Go.RowKit

set_option maxRecDepth 100000 in
theorem ixInts_q (v : Value) (zs : List Int) (n : Int) (w : World) (hl : zs.length ≤ maxLen) (h : Rd w v (zs.map (.int .i64))) :
    Calls Try.prog 182 #[v, .int .i64 n] w fun e w' => ∃ i : Int, e = .returned (.int .i64 i) ∧ (0 ≤ i ↔ n ∈ zs) ∧ w = w' := by
  unfold maxLen at hl
  have no : ∀ j, j ≤ zs.length → (∀ q, q < j → ¬ zs.getD q 0 = n) → ¬ n ∈ zs.take j := fun j hj hq hm => by
    obtain ⟨i, hi, e⟩ := List.getElem_of_mem hm
    rw [List.length_take] at hi
    refine hq i (by omega) ?_
    rw [List.getD_eq_getElem?_getD, List.getElem?_eq_getElem (by omega : i < zs.length)]
    rw [List.getElem_take] at e
    exact e
  rcases rd_ints h with ⟨rfl, a, cap, rfl⟩ | ⟨B, off, cap, hpos, rfl, hlt, hc⟩
  · go_enter Try.func182, Try.ntmps182
    go_wp2
    refine wp_loop_rounds 1 ?_
    rw [rounds_succ]
    go_wp2
    go_ret
    exact ⟨-1, rfl, ⟨fun h => absurd h (by decide), fun h => by cases h⟩, rfl⟩
  · have HC := Lib.hid hc
    have HNo := Lib.hid no
    obtain ⟨N, hN⟩ : ∃ N, N = zs.length := ⟨_, rfl⟩
    rw [← hN] at hl hpos ⊢
    have HNN := Lib.hid hN
    clear h hc hN no
    go_enter Try.func182, Try.ntmps182
    go_wp2
    go_loop [8] (fun i => ∃ (j : Nat), j ≤ N ∧ i = .int .i64 j ∧ ∀ q, q < j → ¬ zs.getD q 0 = n) (fun i => N - (intOf i).toNat)
    case atStart => exact ⟨0, Nat.zero_le _, rfl, fun q hq => absurd hq (Nat.not_lt_zero _)⟩
    case round =>
      obtain ⟨j, hj, rfl, hno⟩ := hrel
      by_cases hlt' : j < N
      · have c0 := HC.out j (by rw [← HNN.out]; exact hlt')
        obtain ⟨z, hz⟩ : ∃ z, z = zs.getD j 0 := ⟨_, rfl⟩
        rw [← hz] at c0
        have HZ := Lib.hid hz
        have HQ := Lib.hid hno
        clear hz hno
        by_cases he : z = n
        · have b0 : (n == z) = true := by simp [he]
          have HM := Lib.hid (show n ∈ zs by
            rw [← he, HZ.out, List.getD_eq_getElem?_getD, List.getElem?_eq_getElem (by rw [← HNN.out]; exact hlt')]
            exact List.getElem_mem _)
          clear he
          go_wp2
          go_ret
          exact ⟨j, rfl, ⟨fun _ => HM.out, fun _ => by omega⟩, rfl⟩
        · have b0 : (n == z) = false := by simp; omega
          have HN2 := Lib.hid (show ∀ q, q < j + 1 → ¬ zs.getD q 0 = n from fun q hq => by
            rcases Nat.lt_or_ge q j with h | h
            · exact HQ.out q h
            · obtain rfl : q = j := by omega
              rw [← HZ.out]; exact he)
          clear he
          go_wp2
          go_round
          case rel => exact ⟨j + 1, by omega, by go_num, HN2.out⟩
          case measure => simp [intOf]; omega
      · obtain rfl : j = N := by omega
        have HM := Lib.hid (show ¬ n ∈ zs by
          have := HNo.out zs.length (Nat.le_refl _) (by rw [← HNN.out]; exact hno)
          rwa [List.take_length] at this)
        clear hno
        go_wp2
        go_ret
        exact ⟨-1, rfl, ⟨fun h => absurd h (by decide), fun h => absurd h HM.out⟩, rfl⟩

theorem hasInts_q (v : Value) (zs : List Int) (n : Int) (b : Bool) (hb : b = decide (n ∈ zs)) (w : World) (hl : zs.length ≤ maxLen) (h : Rd w v (zs.map (.int .i64))) :
    Calls Try.prog 146 #[v, .int .i64 n] w fun e w' => e = .returned (.bool b) ∧ w = w' := by
  have HBV := Lib.hid hb
  have HL := Lib.hid hl
  have H := Lib.hid h
  clear hb hl h
  go_enter Try.func146, Try.ntmps146
  go_wp2_with fail
  refine (ixInts_q v zs n _ HL.out H.out).mono ?_
  rintro e w0 ⟨i, rfl, hi, rfl⟩
  have HE := Lib.hid (show b = decide (0 ≤ i) by
    rw [HBV.out]
    by_cases h : n ∈ zs
    · rw [decide_eq_true h, decide_eq_true (hi.2 h)]
    · rw [decide_eq_false h, decide_eq_false (fun h2 => h (hi.1 h2))])
  clear hi
  go_wp2
  go_ret
  exact ⟨by rw [HE.out]; rfl, rfl⟩

set_option maxRecDepth 100000 in
set_option maxHeartbeats 4000000 in
theorem implNewKeys_any (m1 m2 : Int) (u1 u2 : Value) (z1 z2 : List Int) (w : World) (hl1 : z1.length ≤ maxLen) (hl2 : z2.length ≤ 1048576) (h1 : Rd w u1 (z1.map (.int .i64))) (h2 : Rd w u2 (z2.map (.int .i64))) :
    Calls Try.prog 66 #[rpv m1 u1, rpv m2 u2] w (NkO (nkV (m1, z1) (m2, z2)) w) := by
  obtain ⟨i0, hi, hz0, hz1, hz2⟩ := info_parts info_int
  obtain ⟨R, hR⟩ : ∃ R, R = nkV (m1, z1) (m2, z2) := ⟨_, rfl⟩
  rw [← hR]
  obtain ⟨va, hva⟩ : ∃ v, v = okRp m1 z1 := ⟨_, rfl⟩
  obtain ⟨vb, hvb⟩ : ∃ v, v = okRp m2 z2 := ⟨_, rfl⟩
  have hr2 : R = if (va && vb) = true then z2.filter (fun c => !decide (c ∈ z1)) else [] := by rw [hR, hva, hvb]; rfl
  have HR := Lib.hid hr2
  have HVA := Lib.hid hva
  have HVB := Lib.hid hvb
  have HL1 := Lib.hid hl1
  have HL2 := Lib.hid (show z2.length ≤ maxLen by unfold maxLen; omega)
  have H1 := Lib.hid h1
  have H2 := Lib.hid h2
  clear hR hr2 hva hvb hl1
  obtain ⟨a1, k1, rfl⟩ := ints_shape h1
  obtain ⟨a2, k2, rfl⟩ := ints_shape h2
  clear h1
  obtain ⟨N, hN⟩ : ∃ N, N = z2.length := ⟨_, rfl⟩
  rw [← hN] at hl2 ⊢
  have HNN := Lib.hid hN
  obtain ⟨U, hU⟩ : ∃ U, U = (w.alloc (.cells #[.int .i64 m1, .slice a1 z1.length k1] 62)).alloc (.cells #[.int .i64 m2, .slice a2 N k2] 62) := ⟨_, rfl⟩
  have HX1 := Lib.hid (show Bxd U w.heap.size [.int .i64 m1, .slice a1 z1.length k1] by rw [hU]; exact (Bxd.new w [.int .i64 m1, .slice a1 z1.length k1] 62).below ((Below.refl _ _).alloc (Nat.le_refl _) _) (by simp))
  have HX2 := Lib.hid (show Bxd U (w.heap.size + 1) [.int .i64 m2, .slice a2 N k2] by rw [hU]; have := Bxd.new (w.alloc (.cells #[.int .i64 m1, .slice a1 z1.length k1] 62)) [.int .i64 m2, .slice a2 N k2] 62; simpa using this)
  have HB0 := Lib.hid (show Below w.heap.size w U by rw [hU]; exact ((Below.refl _ _).alloc (Nat.le_refl _) _).alloc (by simp) _)
  have HS0 := Lib.hid (show U.heap.size = w.heap.size + 2 by rw [hU]; simp)
  have HU := Lib.hid hU
  have hc : N = 0 ∨ ∃ b2 off2, a2 = some ⟨b2, off2, none⟩ ∧ b2 < w.heap.size ∧ ∀ j, j < N → w.cell? ⟨b2, off2 + j, none⟩ = some (.int .i64 (z2.getD j 0)) := by
    rcases rd_ints h2 with ⟨h0, _, _, _⟩ | ⟨b2, off2, cap2, hpos, he, hlt2, hc⟩
    · left; rw [hN, h0]; rfl
    · right
      simp only [Value.slice.injEq] at he
      exact ⟨b2, off2, he.1, hlt2, by rw [hN]; exact hc⟩
  have HC := Lib.hid hc
  clear hU h2 hN hc
  go_enter Try.func66, Try.ntmps66
  go_upto_region 1 with (fail)
  rw [← HU.out]
  have c0 := HX1.out.at 0 _ rfl
  have c1 := HX1.out.at 1 _ rfl
  go_wp2_with fail
  refine (implIsReport_q m1 _ z1 va HVA.out _ HL1.out (H1.out.below HB0.out)).mono ?_
  rintro e w1 ⟨rfl, hb1⟩
  have HB1 := Lib.hid hb1
  have HW1 := Lib.hid (HB0.out.trans (hb1.mono HB0.out.size))
  clear hb1 c0 c1
  cases va
  · skip
    obtain rfl : R = [] := by rw [HR.out]; rfl
    go_wp2
    go_ret
    exact ⟨none, 0, rfl, World.ownsRow_nil _ _ _ _, HW1.out⟩
  · have hX2 := HX2.out.below HB1.out (by rw [HS0.out]; omega)
    have d0 := hX2.at 0 _ rfl
    have d1 := hX2.at 1 _ rfl
    go_wp2_with fail
    refine (implIsReport_q m2 _ z2 vb HVB.out _ HL2.out (by rw [HNN.out]; exact H2.out.below HW1.out)).mono ?_
    rintro e w2 ⟨rfl, hb2⟩
    have HB2 := Lib.hid (HB1.out.trans (hb2.mono HB1.out.size))
    have HW2 := Lib.hid (HB0.out.trans (HB2.out.mono HB0.out.size))
    clear hb2 d0 d1 hX2 HB1 HW1
    cases vb
    · skip
      obtain rfl : R = [] := by rw [HR.out]; rfl
      go_wp2
      go_ret
      exact ⟨none, 0, rfl, World.ownsRow_nil _ _ _ _, HW2.out⟩
    · have hX2 := HX2.out.below HB2.out (by rw [HS0.out]; omega)
      have d1 := hX2.at 1 _ rfl
      clear hX2
      go_wp2
      go_loopw [19, 5] (fun i u wr => ∃ (j n : Nat), j ≤ N ∧ i = .int .i64 j ∧ n = (nkJ (m1, z1) (m2, z2) j).length ∧ wr.ownsRow U.heap.size 3 1 u n ((nkJ (m1, z1) (m2, z2) j).map (.int .i64)) ∧ Below U.heap.size U wr) (fun i _ _ => N - (intOf i).toNat)
      case atStart => exact ⟨0, 0, Nat.zero_le _, rfl, rfl, World.ownsRow_nil _ _ _ _, HB2.out⟩
      case round =>
        obtain ⟨j, n, hj, rfl, hn, hown, hb⟩ := hrel
        obtain ⟨ua, uc, rfl⟩ := owns_shape hown
        have HO := Lib.hid hown
        have HB := Lib.hid hb
        have HN := Lib.hid hn
        clear hown hb hn
        by_cases hlt' : j < N
        · have hjN : (j : Int) < (N : Int) := by omega
          have HWB := Lib.hid (HB0.out.trans (HB.out.mono HB0.out.size))
          obtain ⟨b2, off2, rfl, hlt2, hcc⟩ := HC.out.resolve_left (by omega)
          have hX1 := HX1.out.below HB.out (by rw [HS0.out]; omega)
          have x1 := hX1.at 1 _ rfl
          have hjl : j < z2.length := by rw [← HNN.out]; exact hlt'
          have r0 := (HWB.out.cell (p := ⟨b2, off2 + j, none⟩) hlt2).trans (hcc j hlt')
          obtain ⟨z, hz⟩ : ∃ z, z = z2.getD j 0 := ⟨_, rfl⟩
          rw [← hz] at r0
          obtain ⟨s, hs⟩ : ∃ s, s = decide (z ∈ z1) := ⟨_, rfl⟩
          have hnx : nkJ (m1, z1) (m2, z2) (j + 1) = nkJ (m1, z1) (m2, z2) j ++ (if s = true then [] else [z]) := by
            rw [nkJ_succ _ _ hjl]
            congr 1
            show (if z2.getD j 0 ∈ z1 then [] else [z2.getD j 0]) = _
            rw [← hz, hs]
            by_cases hm : z ∈ z1 <;> simp [hm]
          have HNX := Lib.hid hnx
          have HSS := Lib.hid hs
          have HLE := Lib.hid (show n ≤ j by rw [HN.out]; exact nkJ_len _ _ _)
          clear hz hs hnx hX1 hjl hcc
          have hj0 : (0 : Int) ≤ (j : Int) := by omega
          go_wp2_with fail
          refine (hasInts_q _ z1 z s HSS.out _ HL1.out (H1.out.below HWB.out)).mono ?_
          rintro e w0 ⟨rfl, rfl⟩
          clear x1 r0
          cases s
          · have b63 : n + 1 ≤ maxLen := by have := HLE.out; unfold maxLen; omega
            have b47 : (n + 1) * 8 ≤ 140737488355328 := by have := HLE.out; omega
            go_wp2_with (at_builtin; refine wpList_append_own _ rfl _ _ 60 rfl U.heap.size 3 i0 (.int .i64 0) 1 8 Try.underlying60 hi hz0 hz1 hz2 rfl (by decide) _ _ _ rfl (HO.out.alloc _) ⟨wr.heap.size, 0, none⟩ 1 1 [.int .i64 z] rfl rfl ?c1 ?c2 b63 b47 ?c5 ?_)
            case c1 => exact cell_one_new _ _ _
            case c2 => intro u hu; simp at hu; subst hu; rfl
            case c5 => have := HB.out.size; simp; omega
            intro v' w4 hown1 hgrow _
            have HG := Lib.hid hown1
            have HB4 := Lib.hid ((HB.out.alloc HB.out.size _).grown hgrow (by have := HB.out.size; simp; omega) (fun q hq => (HO.out.lt q hq).1))
            have HNX2 := Lib.hid (show nkJ (m1, z1) (m2, z2) (j + 1) = nkJ (m1, z1) (m2, z2) j ++ [z] from HNX.out)
            clear hown1 hgrow
            go_wp2
            go_roundw
            case rel => exact ⟨j + 1, n + 1, by omega, by go_num, by rw [HNX2.out, List.length_append, HN.out]; rfl, by rw [HNX2.out, List.map_append]; exact HG.out, HB4.out⟩
            case measure => simp [intOf]; omega
          · have HNX2 := Lib.hid (show nkJ (m1, z1) (m2, z2) (j + 1) = nkJ (m1, z1) (m2, z2) j from HNX.out.trans (List.append_nil _))
            go_wp2
            go_roundw
            case rel => exact ⟨j + 1, n, by omega, by go_num, by rw [HNX2.out]; exact HN.out, by rw [HNX2.out]; exact HO.out, HB.out⟩
            case measure => simp [intOf]; omega
        · obtain rfl : j = N := by omega
          have hRn : R = nkJ (m1, z1) (m2, z2) j := by
            rw [HR.out, if_pos (show (true && true) = true from rfl)]
            have := nkJ_all (m1, z1) (m2, z2)
            rw [← HNN.out] at this
            exact this.symm
          have HRn := Lib.hid hRn
          have HL := Lib.hid (show R.length = n by rw [hRn]; exact HN.out.symm)
          clear hRn
          go_wp2
          go_ret
          refine ⟨ua, uc, by rw [HL.out]; rfl, ?_, HB0.out.trans (HB.out.mono HB0.out.size)⟩
          rw [HL.out, HRn.out]
          exact owns_base HO.out HB0.out.size

end Go.Proofs.Yteljmfdlegohbaa
