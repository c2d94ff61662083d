/- DERIVED. The reference's NewKeys: the keys of a report that the one before does not have. -/
import Derived.Test.YteljmfdlegohbaaHoSpec2
namespace Go.Proofs.Yteljmfdlegohbaa
open Go.RowKit

/-- A list of numbers that a call has made. -/
def NkO (zs : List Int) (w : World) (e : Ending) (w' : World) : Prop := ∃ a c, e = .returned (.slice a zs.length c) ∧ w'.ownsRow w.heap.size 3 1 (.slice a zs.length c) zs.length (zs.map (.int .i64)) ∧ Below w.heap.size w w'

theorem nkJ_zero (p q : Rv) : nkJ p q 0 = [] := rfl

set_option maxRecDepth 100000 in
set_option maxHeartbeats 4000000 in
theorem specNewKeys_any (m1 m2 : Int) (u1 u2 : Value) (z1 z2 : List Int) (w : World) (hl1 : z1.length ≤ maxLen) (hl2 : z2.length ≤ 1048576) (h1 : Rd w u1 (z1.map (.int .i64))) (h2 : Rd w u2 (z2.map (.int .i64))) :
    Calls Try.prog 64 #[rpv m1 u1, rpv m2 u2] w (NkO (nkV (m1, z1) (m2, z2)) w) := by
  obtain ⟨i0, hi, hz0, hz1, hz2⟩ := info_parts info_int
  obtain ⟨R, hR⟩ : ∃ R, R = nkV (m1, z1) (m2, z2) := ⟨_, rfl⟩
  rw [← hR]
  obtain ⟨va, hva⟩ : ∃ v, v = okRp m1 z1 := ⟨_, rfl⟩
  obtain ⟨vb, hvb⟩ : ∃ v, v = okRp m2 z2 := ⟨_, rfl⟩
  have hr2 : R = if (va && vb) = true then z2.filter (fun c => !decide (c ∈ z1)) else [] := by rw [hR, hva, hvb]; rfl
  have HR := Lib.hid hr2
  have HVA := Lib.hid hva
  have HVB := Lib.hid hvb
  have HL1 := Lib.hid hl1
  have H1 := Lib.hid h1
  clear hR hr2 hva hvb hl1
  obtain ⟨a1, k1, rfl⟩ := ints_shape h1
  clear h1
  rcases rd_ints h2 with ⟨rfl, a2, cap2, rfl⟩ | ⟨b2, off2, cap2, hpos, rfl, hlt2, hc⟩
  · obtain rfl : R = [] := by rw [HR.out]; cases (va && vb) <;> rfl
    clear h2
    obtain ⟨U, hU⟩ : ∃ U, U = (w.alloc (.cells #[.int .i64 m1, .slice a1 z1.length k1] 62)).alloc (.cells #[.int .i64 m2, .slice a2 0 cap2] 62) := ⟨_, rfl⟩
    have HX2 := Lib.hid (show Bxd U (w.heap.size + 1) [.int .i64 m2, .slice a2 0 cap2] by rw [hU]; have := Bxd.new (w.alloc (.cells #[.int .i64 m1, .slice a1 z1.length k1] 62)) [.int .i64 m2, .slice a2 0 cap2] 62; simpa using this)
    have HB0 := Lib.hid (show Below w.heap.size w U by rw [hU]; exact ((Below.refl _ _).alloc (Nat.le_refl _) _).alloc (by simp) _)
    have HS0 := Lib.hid (show U.heap.size = w.heap.size + 2 by rw [hU]; simp)
    have HU := Lib.hid hU
    clear hU
    go_enter Try.func64, Try.ntmps64
    go_upto_region 1 with (fail)
    rw [← HU.out]
    go_wp2
    have hX := HX2.out.below ((Below.refl U.heap.size U).alloc (Nat.le_refl _) (.cells #[] 3)) (by rw [HS0.out]; omega)
    have c0 := hX.at 0 _ rfl
    have c1 := hX.at 1 _ rfl
    refine wp_loop_rounds 1 ?_
    rw [rounds_succ]
    go_wp2
    go_ret
    exact ⟨_, _, rfl, World.ownsRow_lit (size := 1) U #[] 0 HB0.out.size (by simp [maxLen]) rfl, HB0.out.alloc HB0.out.size _⟩
  · have HC := Lib.hid hc
    have H2 := Lib.hid h2
    obtain ⟨N, hN⟩ : ∃ N, N = z2.length := ⟨_, rfl⟩
    rw [← hN] at hl2 hpos ⊢
    have HNN := Lib.hid hN
    clear h2 hc hN
    obtain ⟨U, hU⟩ : ∃ U, U = (w.alloc (.cells #[.int .i64 m1, .slice a1 z1.length k1] 62)).alloc (.cells #[.int .i64 m2, .slice (some ⟨b2, off2, none⟩) N cap2] 62) := ⟨_, rfl⟩
    have HX1 := Lib.hid (show Bxd U w.heap.size [.int .i64 m1, .slice a1 z1.length k1] by rw [hU]; exact (Bxd.new w [.int .i64 m1, .slice a1 z1.length k1] 62).below ((Below.refl _ _).alloc (Nat.le_refl _) _) (by simp))
    have HX2 := Lib.hid (show Bxd U (w.heap.size + 1) [.int .i64 m2, .slice (some ⟨b2, off2, none⟩) N cap2] by rw [hU]; have := Bxd.new (w.alloc (.cells #[.int .i64 m1, .slice a1 z1.length k1] 62)) [.int .i64 m2, .slice (some ⟨b2, off2, none⟩) N cap2] 62; simpa using this)
    have HB0 := Lib.hid (show Below w.heap.size w U by rw [hU]; exact ((Below.refl _ _).alloc (Nat.le_refl _) _).alloc (by simp) _)
    have HS0 := Lib.hid (show U.heap.size = w.heap.size + 2 by rw [hU]; simp)
    have HU := Lib.hid hU
    clear hU
    go_enter Try.func64, Try.ntmps64
    go_upto_region 1 with (fail)
    rw [← HU.out]
    go_wp2
    go_loopw [6, 5] (fun i u wr => ∃ (j n : Nat), j ≤ N ∧ i = .int .i64 j ∧ n = (nkJ (m1, z1) (m2, z2) j).length ∧ wr.ownsRow U.heap.size 3 1 u n ((nkJ (m1, z1) (m2, z2) j).map (.int .i64)) ∧ (j = 0 ∨ (va && vb) = true) ∧ Below U.heap.size U wr) (fun i _ _ => N - (intOf i).toNat)
    case atStart => exact ⟨0, 0, Nat.zero_le _, rfl, rfl, World.ownsRow_lit (size := 1) U #[] 0 (Nat.le_refl _) (by simp [maxLen]) rfl, .inl rfl, (Below.refl _ _).alloc (Nat.le_refl _) _⟩
    case round =>
      obtain ⟨j, n, hj, rfl, hn, hown, hor, hb⟩ := hrel
      obtain ⟨ua, uc, rfl⟩ := owns_shape hown
      have HO := Lib.hid hown
      have HB := Lib.hid hb
      have HN := Lib.hid hn
      have HOR := Lib.hid hor
      clear hown hb hn hor
      have hX1 := HX1.out.below HB.out (by rw [HS0.out]; omega)
      have hX2 := HX2.out.below HB.out (by rw [HS0.out]; omega)
      have c0 := hX1.at 0 _ rfl
      have c1 := hX1.at 1 _ rfl
      have d0 := hX2.at 0 _ rfl
      have d1 := hX2.at 1 _ rfl
      have e0 := hX2.at 1 _ rfl
      by_cases hlt' : j < N
      · have hjN : (j : Int) < (N : Int) := by omega
        have HWB := Lib.hid (HB0.out.trans (HB.out.mono HB0.out.size))
        go_wp2_with fail
        refine (specIsReport_any m1 _ z1 _ HL1.out (H1.out.below HWB.out)).mono ?_
        rw [← HVA.out]
        rintro e w1 ⟨rfl, hb1⟩
        have HB1 := Lib.hid (HB.out.trans (hb1.mono HB.out.size))
        have HO1 := Lib.hid (owns_below HO.out hb1)
        clear hb1 c0 c1 d0 d1 e0 hX1 hX2 HB HO HWB
        cases va
        · skip
          obtain rfl : j = 0 := by rcases HOR.out with h | h; exact h; cases h
          obtain rfl : R = [] := by rw [HR.out]; rfl
          obtain rfl : n = 0 := HN.out
          go_wp2
          go_ret
          exact ⟨_, _, rfl, owns_base HO1.out HB0.out.size, HB0.out.trans (HB1.out.mono HB0.out.size)⟩
        · have HW1 := Lib.hid (HB0.out.trans (HB1.out.mono HB0.out.size))
          have hX2 := HX2.out.below HB1.out (by rw [HS0.out]; omega)
          have d0 := hX2.at 0 _ rfl
          have d1 := hX2.at 1 _ rfl
          go_wp2_with fail
          refine (specIsReport_any m2 _ z2 _ (by rw [← HNN.out]; unfold maxLen; omega) (by rw [HNN.out]; exact H2.out.below HW1.out)).mono ?_
          rw [← HVB.out]
          rintro e w2 ⟨rfl, hb2⟩
          have HB2 := Lib.hid (HB1.out.trans (hb2.mono HB1.out.size))
          have HO2 := Lib.hid (owns_below HO1.out hb2)
          clear hb2 d0 d1 hX2 HB1 HO1 HW1
          cases vb
          · skip
            obtain rfl : j = 0 := by rcases HOR.out with h | h; exact h; cases h
            obtain rfl : R = [] := by rw [HR.out]; rfl
            obtain rfl : n = 0 := HN.out
            go_wp2
            go_ret
            exact ⟨_, _, rfl, owns_base HO2.out HB0.out.size, HB0.out.trans (HB2.out.mono HB0.out.size)⟩
          · have HW2 := Lib.hid (HB0.out.trans (HB2.out.mono HB0.out.size))
            have hX1 := HX1.out.below HB2.out (by rw [HS0.out]; omega)
            have hX2 := HX2.out.below HB2.out (by rw [HS0.out]; omega)
            have x1 := hX1.at 1 _ rfl
            have y1 := hX2.at 1 _ rfl
            have hjl : j < z2.length := by rw [← HNN.out]; exact hlt'
            have r0 := (HW2.out.cell (p := ⟨b2, off2 + j, none⟩) hlt2).trans (HC.out j hjl)
            obtain ⟨z, hz⟩ : ∃ z, z = z2.getD j 0 := ⟨_, rfl⟩
            rw [← hz] at r0
            obtain ⟨s, hs⟩ : ∃ s, s = decide (z ∈ z1) := ⟨_, rfl⟩
            have hnx : nkJ (m1, z1) (m2, z2) (j + 1) = nkJ (m1, z1) (m2, z2) j ++ (if s = true then [] else [z]) := by
              rw [nkJ_succ _ _ hjl]
              congr 1
              show (if z2.getD j 0 ∈ z1 then [] else [z2.getD j 0]) = _
              rw [← hz, hs]
              by_cases hm : z ∈ z1 <;> simp [hm]
            have HNX := Lib.hid hnx
            have HZ0 := Lib.hid (show w.cell? ⟨b2, off2 + j, none⟩ = some (.int .i64 z) by rw [hz]; exact HC.out j hjl)
            have HSS := Lib.hid hs
            have HLE := Lib.hid (show n ≤ j by rw [HN.out]; exact nkJ_len _ _ _)
            clear hz hs hnx hX1 hX2 hjl
            have hj0 : (0 : Int) ≤ (j : Int) := by omega
            have HR2 := Lib.hid (H1.out.below HW2.out)
            go_upto_region 5 with (fail)
            go_quiet ((go_at_call 143; exact Calls.quiet_of_same (specHas_q _ z1 z s HSS.out _ HL1.out (HR2.out.below (below_drewN (Below.refl _ _) _)))))
            obtain ⟨w3, hw3⟩ : ∃ w3, w3 = w2.drewN nq := ⟨_, rfl⟩
            rw [← hw3]
            have hb3 : Below w2.heap.size w2 w3 := by rw [hw3]; exact below_drewN (Below.refl _ _) _
            have HB3 := Lib.hid (HB2.out.trans (hb3.mono HB2.out.size))
            have HO3 := Lib.hid (owns_below HO2.out hb3)
            have HW3 := Lib.hid (HW2.out.trans (hb3.mono HW2.out.size))
            clear hw3 hb3 x1 y1 r0 HR2 HB2 HO2 HW2
            cases s
            · have hX2 := HX2.out.below HB3.out (by rw [HS0.out]; omega)
              have y1 := hX2.at 1 _ rfl
              have r0 := (HW3.out.cell (p := ⟨b2, off2 + j, none⟩) hlt2).trans HZ0.out
              have b63 : n + 1 ≤ maxLen := by have := HLE.out; unfold maxLen; omega
              have b47 : (n + 1) * 8 ≤ 140737488355328 := by have := HLE.out; omega
              clear hX2
              go_wp2_with (at_builtin; refine wpList_append_own _ rfl _ _ 60 rfl U.heap.size 3 i0 (.int .i64 0) 1 8 Try.underlying60 hi hz0 hz1 hz2 rfl (by decide) _ _ _ rfl (HO3.out.alloc _) ⟨w3.heap.size, 0, none⟩ 1 1 [.int .i64 z] rfl rfl ?c1 ?c2 b63 b47 ?c5 ?_)
              case c1 => exact cell_one_new _ _ _
              case c2 => intro u hu; simp at hu; subst hu; rfl
              case c5 => have := HB3.out.size; simp; omega
              intro v' w4 hown1 hgrow _
              have HG := Lib.hid hown1
              have HB4 := Lib.hid ((HB3.out.alloc HB3.out.size _).grown hgrow (by have := HB3.out.size; simp; omega) (fun q hq => (HO3.out.lt q hq).1))
              have HNX2 := Lib.hid (show nkJ (m1, z1) (m2, z2) (j + 1) = nkJ (m1, z1) (m2, z2) j ++ [z] from HNX.out)
              clear hown1 hgrow y1 r0
              go_wp2
              go_roundw
              case rel => exact ⟨j + 1, n + 1, by omega, by go_num, by rw [HNX2.out, List.length_append, HN.out]; rfl, by rw [HNX2.out, List.map_append]; exact HG.out, .inr rfl, HB4.out⟩
              case measure => simp [intOf]; omega
            · have HNX2 := Lib.hid (show nkJ (m1, z1) (m2, z2) (j + 1) = nkJ (m1, z1) (m2, z2) j from HNX.out.trans (List.append_nil _))
              go_wp2
              go_roundw
              case rel => exact ⟨j + 1, n, by omega, by go_num, by rw [HNX2.out]; exact HN.out, by rw [HNX2.out]; exact HO3.out, .inr rfl, HB3.out⟩
              case measure => simp [intOf]; omega
      · obtain rfl : j = N := by omega
        have hRn : R = nkJ (m1, z1) (m2, z2) j := by
          rcases HOR.out with h | h
          · omega
          · rw [HR.out, if_pos h]
            have := nkJ_all (m1, z1) (m2, z2)
            rw [← HNN.out] at this
            exact this.symm
        have HRn := Lib.hid hRn
        have HL := Lib.hid (show R.length = n by rw [hRn]; exact HN.out.symm)
        clear hRn
        go_wp2
        go_ret
        refine ⟨ua, uc, by rw [HL.out]; rfl, ?_, HB0.out.trans (HB.out.mono HB0.out.size)⟩
        rw [HL.out, HRn.out]
        exact owns_base HO.out HB0.out.size

end Go.Proofs.Yteljmfdlegohbaa
