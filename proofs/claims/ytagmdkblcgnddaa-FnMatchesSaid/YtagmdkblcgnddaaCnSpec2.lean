/- DERIVED. The reference's IsCombiner. -/
import Derived.Test.YtagmdkblcgnddaaCnSpec
import Derived.Test.YtagmdkblcgnddaaCnMath
namespace Go.Proofs.Ytagmdkblcgnddaa
open Go.RowKit

theorem specFollowsC_q (v : Value) (l : List Ev) (H : Nat) (K f : Int) (r : Bool) (hr : r = (folV K l H f && decide (l.length ≤ 64))) (w : World) (hl : l.length ≤ maxLen) (hH : H < 2 ^ 32) (h : RdN w v l.length (flatEv l)) :
    Calls Try.prog 105 #[v, .int .i64 (H : Int), .int .i64 K, .int .i64 f] w fun e w' => e = .returned (.bool r) ∧ Below w.heap.size w w' := specFollows_q v l H K f r hr w hl hH h

set_option maxRecDepth 100000 in
set_option maxHeartbeats 4000000 in
theorem specIsCombiner_q (c : Cn) (u1 u2 u3 : Value) (r : Bool) (hr : r = okCn c) (w : World) (hn1 : c.C.length ≤ maxLen) (hn2 : c.Q.length ≤ maxLen) (hn3 : c.A.length ≤ maxLen) (hw : AvWf c.A) (h : RdCn w c u1 u2 u3) :
    Calls Try.prog 45 #[c.val u1 u2 u3] w fun e w' => e = .returned (.bool r) ∧ Below w.heap.size w w' := by
  obtain ⟨va, hva⟩ : ∃ v, v = okCbs c.C := ⟨_, rfl⟩
  obtain ⟨vb, hvb⟩ : ∃ v, v = inB c.t 1 200 := ⟨_, rfl⟩
  obtain ⟨vc, hvc⟩ : ∃ v, v = inB c.n 0 1000000 := ⟨_, rfl⟩
  obtain ⟨vd, hvd⟩ : ∃ v, v = inB c.k 0 c.n := ⟨_, rfl⟩
  obtain ⟨ve, hve⟩ : ∃ v, v = okAvs c.C c.d c.A := ⟨_, rfl⟩
  obtain ⟨vf, hvf⟩ : ∃ v, v = (folV 24 c.Q (hlV c).toNat 0 && decide (c.Q.length ≤ 64)) := ⟨_, rfl⟩
  obtain ⟨vg, hvg⟩ : ∃ v, v = !(decide (0 < c.Q.length) && decide (c.n < lastT c.Q 0)) := ⟨_, rfl⟩
  have hrv : r = ((va && (vb && (vc && (vd && ve)))) && (vf && vg)) := by rw [hr, hva, hvb, hvc, hvd, hve, hvf, hvg]; rfl
  have HR := Lib.hid hrv
  have HVA := Lib.hid hva
  have HVB := Lib.hid hvb
  have HVC := Lib.hid hvc
  have HVD := Lib.hid hvd
  have HVE := Lib.hid hve
  have HVF := Lib.hid hvf
  have HVG := Lib.hid hvg
  have HRd := Lib.hid h
  have HN1 := Lib.hid hn1
  have HN2 := Lib.hid hn2
  have HN3 := Lib.hid hn3
  have HWf := Lib.hid hw
  obtain ⟨nQ, hnQ⟩ : ∃ x, x = c.Q.length := ⟨_, rfl⟩
  have HNQ := Lib.hid hnQ
  obtain ⟨a2, cap2, hu2, hcs⟩ : ∃ a2 cap2, u2 = .slice a2 nQ cap2 ∧ (c.Q = [] ∨ ∃ b off, a2 = some ⟨b, off, none⟩ ∧ b < w.heap.size ∧ ∀ j, j < c.Q.length → w.cell? ⟨b, off + j * 3, none⟩ = some (.int .i64 (evD c.Q j).t)) := by
    rcases rd_evs h.qs with ⟨hnil, a, cap, e⟩ | ⟨b, off, cap, hpos, e, hlt, hc⟩
    · exact ⟨a, cap, by rw [e, hnQ, hnil]; rfl, .inl hnil⟩
    · exact ⟨_, cap, by rw [e, hnQ], .inr ⟨b, off, rfl, hlt, fun j hj => (hc j hj).1⟩⟩
  subst hu2
  have HCs := Lib.hid hcs
  clear hr hrv hva hvb hvc hvd hve hvf hvg h hn1 hn2 hn3 hw hnQ hcs
  obtain ⟨W, hW⟩ : ∃ W, W = w.alloc (.cells #[u1, .int .i64 c.t, .slice a2 nQ cap2, .int .i64 c.n, .int .i64 c.k, .int .i64 c.d, u3] 28) := ⟨_, rfl⟩
  have HX0 := Lib.hid (show Bxd W w.heap.size [u1, .int .i64 c.t, .slice a2 nQ cap2, .int .i64 c.n, .int .i64 c.k, .int .i64 c.d, u3] by rw [hW]; exact Bxd.new _ _ _)
  have HB0 := Lib.hid (show Below w.heap.size w W by rw [hW]; exact (Below.refl _ _).alloc (Nat.le_refl _) _)
  have HS0 := Lib.hid (show w.heap.size < W.heap.size by rw [hW]; simp)
  have HW := Lib.hid hW
  clear hW
  go_enter Try.func45, Try.ntmps45
  go_upto_region 1 with (fail)
  rw [← HW.out]
  have x0 := HX0.out.at 0 _ rfl
  have x1 := HX0.out.at 1 _ rfl
  have x2 := HX0.out.at 2 _ rfl
  have x3 := HX0.out.at 3 _ rfl
  have x4 := HX0.out.at 4 _ rfl
  have x5 := HX0.out.at 5 _ rfl
  have x6 := HX0.out.at 6 _ rfl
  go_wp2_with fail
  refine (specIsCombos_q u1 c.C va HVA.out _ HN1.out (HRd.out.cs.below HB0.out)).mono ?_
  rintro e w1 ⟨rfl, hb⟩
  have HB1 := Lib.hid (HB0.out.trans (hb.mono HB0.out.size))
  have HX1 := Lib.hid (HX0.out.below hb HS0.out)
  have HS1 := Lib.hid (Nat.lt_of_lt_of_le HS0.out hb.size)
  clear hb x0 x1 x2 x3 x4 x5 x6
  have x0 := HX1.out.at 0 _ rfl
  have x1 := HX1.out.at 1 _ rfl
  have x2 := HX1.out.at 2 _ rfl
  have x3 := HX1.out.at 3 _ rfl
  have x4 := HX1.out.at 4 _ rfl
  have x5 := HX1.out.at 5 _ rfl
  have x6 := HX1.out.at 6 _ rfl
  cases va
  · obtain rfl : r = false := HR.out.trans (by simp)
    go_wp2
    go_ret
    exact ⟨rfl, HB1.out⟩
  · go_wp2_with fail
    refine (inB_q c.t 1 200 vb HVB.out _).mono ?_
    rintro e w0 ⟨rfl, rfl⟩
    cases vb
    · obtain rfl : r = false := HR.out.trans (by simp)
      go_wp2
      go_ret
      exact ⟨rfl, HB1.out⟩
    · go_wp2_with fail
      refine (inB_q c.n 0 1000000 vc HVC.out _).mono ?_
      rintro e w0 ⟨rfl, rfl⟩
      cases vc
      · obtain rfl : r = false := HR.out.trans (by simp)
        go_wp2
        go_ret
        exact ⟨rfl, HB1.out⟩
      · go_wp2_with fail
        refine (inB_q c.k 0 c.n vd HVD.out _).mono ?_
        rintro e w0 ⟨rfl, rfl⟩
        cases vd
        · obtain rfl : r = false := HR.out.trans (by simp)
          go_wp2
          go_ret
          exact ⟨rfl, HB1.out⟩
        · go_wp2_with fail
          refine (specActive_q c u1 (.slice a2 nQ cap2) u3 ve HVE.out _ HN1.out (HRd.out.cs.below HB1.out) HN3.out (HRd.out.av.below HB1.out)).mono ?_
          rintro e w2 ⟨rfl, hb⟩
          have HB2 := Lib.hid (HB1.out.trans (hb.mono HB1.out.size))
          have HX2 := Lib.hid (HX1.out.below hb HS1.out)
          have HS2 := Lib.hid (Nat.lt_of_lt_of_le HS1.out hb.size)
          clear hb x0 x1 x2 x3 x4 x5 x6
          cases ve
          · obtain rfl : r = false := HR.out.trans (by simp)
            go_wp2
            go_ret
            exact ⟨rfl, HB2.out⟩
          · obtain ⟨X, hX, hX2⟩ := okAvs_nat HVA.out.symm HWf.out HVE.out.symm
            have HX := Lib.hid hX.symm
            have HF := Lib.hid (show vf = (folV 24 c.Q X 0 && decide (c.Q.length ≤ 64)) by rw [HVF.out, hX, Int.toNat_natCast])
            have hRR : r = (vf && vg) := HR.out.trans (by simp)
            have HRR := Lib.hid hRR
            clear hX hRR
            go_upto_region 3 with (fail)
            have x0 := Far.cell HS2.out (HX2.out.at 0 _ rfl)
            have x1 := Far.cell HS2.out (HX2.out.at 1 _ rfl)
            have x2 := Far.cell HS2.out (HX2.out.at 2 _ rfl)
            have x3 := Far.cell HS2.out (HX2.out.at 3 _ rfl)
            have x4 := Far.cell HS2.out (HX2.out.at 4 _ rfl)
            have x5 := Far.cell HS2.out (HX2.out.at 5 _ rfl)
            have x6 := Far.cell HS2.out (HX2.out.at 6 _ rfl)
            rcases HCs.out with hnil | ⟨b, off, ha2, hlt, hc⟩
            · have hq0 : nQ = 0 := by rw [HNQ.out, hnil]; rfl
              have hg : vg = true := by rw [HVG.out, hnil]; rfl
              subst hq0
              subst hg
              clear hnil
              cases vf
              · obtain rfl : r = false := HRR.out
                refine wp_region_far (by kernel_rfl) (by kernel_rfl) ?_
                repeat (go_big_quiet_step ((first | (go_at_call 106; exact Far.call (specHeldC_q c _ _ u3 (X : Int) HX.out _ HN3.out (HRd.out.av.below (HB2.out.trans ((Far.low _).mono HB2.out.size))))) | (go_at_call 105; exact Far.call (specFollowsC_q _ c.Q X 24 0 _ HF.out _ HN2.out (by omega) (HRd.out.qs.below (HB2.out.trans ((Far.low _).mono HB2.out.size))))))))
                refine wpQuiet_nil ?_
                intro _ hw'
                obtain ⟨xw, rfl⟩ := hw'
                have HB3 := Lib.hid (HB2.out.trans (xw.low.mono HB2.out.size))
                go_wp2
                go_ret
                exact ⟨rfl, HB3.out⟩
              · obtain rfl : r = true := HRR.out
                refine wp_region_far (by kernel_rfl) (by kernel_rfl) ?_
                repeat (go_big_quiet_step ((first | (go_at_call 106; exact Far.call (specHeldC_q c _ _ u3 (X : Int) HX.out _ HN3.out (HRd.out.av.below (HB2.out.trans ((Far.low _).mono HB2.out.size))))) | (go_at_call 105; exact Far.call (specFollowsC_q _ c.Q X 24 0 _ HF.out _ HN2.out (by omega) (HRd.out.qs.below (HB2.out.trans ((Far.low _).mono HB2.out.size))))))))
                refine wpQuiet_nil ?_
                intro _ hw'
                obtain ⟨xw, rfl⟩ := hw'
                have HB3 := Lib.hid (HB2.out.trans (xw.low.mono HB2.out.size))
                go_wp2
                go_ret
                exact ⟨rfl, HB3.out⟩
            · subst ha2
              cases nQ with
              | zero =>
                have hnil : c.Q = [] := List.eq_nil_of_length_eq_zero HNQ.out.symm
                have hg : vg = true := by rw [HVG.out, hnil]; rfl
                subst hg
                clear hnil hc
                cases vf
                · obtain rfl : r = false := HRR.out
                  refine wp_region_far (by kernel_rfl) (by kernel_rfl) ?_
                  repeat (go_big_quiet_step ((first | (go_at_call 106; exact Far.call (specHeldC_q c _ _ u3 (X : Int) HX.out _ HN3.out (HRd.out.av.below (HB2.out.trans ((Far.low _).mono HB2.out.size))))) | (go_at_call 105; exact Far.call (specFollowsC_q _ c.Q X 24 0 _ HF.out _ HN2.out (by omega) (HRd.out.qs.below (HB2.out.trans ((Far.low _).mono HB2.out.size))))))))
                  refine wpQuiet_nil ?_
                  intro _ hw'
                  obtain ⟨xw, rfl⟩ := hw'
                  have HB3 := Lib.hid (HB2.out.trans (xw.low.mono HB2.out.size))
                  go_wp2
                  go_ret
                  exact ⟨rfl, HB3.out⟩
                · obtain rfl : r = true := HRR.out
                  refine wp_region_far (by kernel_rfl) (by kernel_rfl) ?_
                  repeat (go_big_quiet_step ((first | (go_at_call 106; exact Far.call (specHeldC_q c _ _ u3 (X : Int) HX.out _ HN3.out (HRd.out.av.below (HB2.out.trans ((Far.low _).mono HB2.out.size))))) | (go_at_call 105; exact Far.call (specFollowsC_q _ c.Q X 24 0 _ HF.out _ HN2.out (by omega) (HRd.out.qs.below (HB2.out.trans ((Far.low _).mono HB2.out.size))))))))
                  refine wpQuiet_nil ?_
                  intro _ hw'
                  obtain ⟨xw, rfl⟩ := hw'
                  have HB3 := Lib.hid (HB2.out.trans (xw.low.mono HB2.out.size))
                  go_wp2
                  go_ret
                  exact ⟨rfl, HB3.out⟩
              | succ i =>
                have hlast := lastT_at HNQ.out.symm 0
                have y := hc i (by have := HNQ.out; omega)
                obtain ⟨tl, htl⟩ : ∃ t, t = (evD c.Q i).t := ⟨_, rfl⟩
                rw [← htl] at y hlast
                have y0 := Far.cell (Nat.lt_of_lt_of_le hlt HB2.out.size) ((HB2.out.cell (p := ⟨b, off + i * 3, none⟩) hlt).trans y)
                have hg : vg = decide (tl ≤ c.n) := by
                  rw [HVG.out, hlast, ← HNQ.out, decide_eq_true (Nat.succ_pos i), Bool.true_and]
                  by_cases h : tl ≤ c.n
                  · rw [decide_eq_true h, decide_eq_false (by omega)]; rfl
                  · rw [decide_eq_false h, decide_eq_true (by omega)]; rfl
                have eb : (i : Int) ≤ 9223372036854775806 := by have := HN2.out; have := HNQ.out; unfold maxLen at *; omega
                have ei : IntKind.i64.wrap ((i : Int) + 1 - 1) = (i : Int) := by rw [show (i : Int) + 1 - 1 = (i : Int) by omega]; exact IntWalk.i64_in _ ⟨by omega, by omega⟩
                have ei2 : IntKind.i64.wrap (i : Int) = (i : Int) := IntWalk.i64_in _ ⟨by omega, by omega⟩
                have hi0 : (0 : Int) ≤ (i : Int) := by omega
                have hi1 : (i : Int) < (i : Int) + 1 := by omega
                have hz : ((i : Int) + 1 == 0) = false := by simp; omega
                have HGG := Lib.hid hg
                clear hc hlast y htl hg hlt
                cases vf
                · obtain rfl : r = false := HRR.out.trans (by simp)
                  refine wp_region_far (by kernel_rfl) (by kernel_rfl) ?_
                  repeat (go_big_quiet_step ((first | (go_at_call 106; exact Far.call (specHeldC_q c _ _ u3 (X : Int) HX.out _ HN3.out (HRd.out.av.below (HB2.out.trans ((Far.low _).mono HB2.out.size))))) | (go_at_call 105; exact Far.call (specFollowsC_q _ c.Q X 24 0 _ HF.out _ HN2.out (by omega) (HRd.out.qs.below (HB2.out.trans ((Far.low _).mono HB2.out.size))))))))
                  refine wpQuiet_nil ?_
                  intro _ hw'
                  obtain ⟨xw, rfl⟩ := hw'
                  have HB3 := Lib.hid (HB2.out.trans (xw.low.mono HB2.out.size))
                  go_wp2
                  go_ret
                  exact ⟨rfl, HB3.out⟩
                · by_cases hle : tl ≤ c.n
                  · obtain rfl : r = true := HRR.out.trans (by rw [HGG.out, decide_eq_true hle]; rfl)
                    refine wp_region_far (by kernel_rfl) (by kernel_rfl) ?_
                    repeat (go_big_quiet_step ((first | (go_at_call 106; exact Far.call (specHeldC_q c _ _ u3 (X : Int) HX.out _ HN3.out (HRd.out.av.below (HB2.out.trans ((Far.low _).mono HB2.out.size))))) | (go_at_call 105; exact Far.call (specFollowsC_q _ c.Q X 24 0 _ HF.out _ HN2.out (by omega) (HRd.out.qs.below (HB2.out.trans ((Far.low _).mono HB2.out.size))))))))
                    refine wpQuiet_nil ?_
                    intro _ hw'
                    obtain ⟨xw, rfl⟩ := hw'
                    have HB3 := Lib.hid (HB2.out.trans (xw.low.mono HB2.out.size))
                    go_wp2
                    go_ret
                    exact ⟨rfl, HB3.out⟩
                  · obtain rfl : r = false := HRR.out.trans (by rw [HGG.out, decide_eq_false hle]; rfl)
                    refine wp_region_far (by kernel_rfl) (by kernel_rfl) ?_
                    repeat (go_big_quiet_step ((first | (go_at_call 106; exact Far.call (specHeldC_q c _ _ u3 (X : Int) HX.out _ HN3.out (HRd.out.av.below (HB2.out.trans ((Far.low _).mono HB2.out.size))))) | (go_at_call 105; exact Far.call (specFollowsC_q _ c.Q X 24 0 _ HF.out _ HN2.out (by omega) (HRd.out.qs.below (HB2.out.trans ((Far.low _).mono HB2.out.size))))))))
                    refine wpQuiet_nil ?_
                    intro _ hw'
                    obtain ⟨xw, rfl⟩ := hw'
                    have HB3 := Lib.hid (HB2.out.trans (xw.low.mono HB2.out.size))
                    go_wp2
                    go_ret
                    exact ⟨rfl, HB3.out⟩

end Go.Proofs.Ytagmdkblcgnddaa
