/- DERIVED. The reference's IsEngine tells what a plain function says. Called with any engine of at most 1048576 layers, macros and held keys. -/
import Derived.Test.YtjfckchoklepbaaGreatEnFn
import Derived.Test.YtjfckchoklepbaaGreatEnWord
import Derived.Test.YtjfckchoklepbaaGreatEnMath
import Derived.Test.YtjfckchoklepbaaGreatHdSpec
import Derived.Test.YtjfckchoklepbaaGreatKmSpec
import Derived.Test.YtjfckchoklepbaaGreatMcSpec
import Derived.BigRegion
namespace Go.Proofs.YtjfckchoklepbaaGreat
open Go.RowKit

set_option maxRecDepth 100000 in
set_option maxHeartbeats 16000000 in
theorem specIsEngine_any (e : En) (u1 u2 u3 : Value) (w : World) (hs : EnSz e) (h : RdE w e u1 u2 u3) :
    Calls Tryz.prog 97 #[env e.k u1 u2 e.x u3 e.o e.p] w fun r w' => r = .returned (.bool (okEn e)) ∧ Below w.heap.size w w' := by
  obtain ⟨R, hR⟩ : ∃ R, R = okEn e := ⟨_, rfl⟩
  rw [← hR]
  rw [okEn] at hR
  obtain ⟨h1, h2, h3⟩ := h
  obtain ⟨k, L, F, x, Hs, o, p⟩ := e
  obtain ⟨sL, sLr, _, sF, sFr, _, sH⟩ := hs
  simp only at hR h1 h2 h3 sL sLr sF sFr sH ⊢
  obtain ⟨b1, hb1⟩ : ∃ b, b = okKm k L := ⟨_, rfl⟩
  obtain ⟨b2, hb2⟩ : ∃ b, b = okHd Hs := ⟨_, rfl⟩
  rw [← hb1, ← hb2] at hR
  obtain ⟨a2, c2, rfl⟩ := RdSt.shape h2
  obtain ⟨a3, c3, rfl⟩ := RdN.shape h3
  obtain ⟨a1, c1, rfl⟩ := RdS.shape h1
  obtain ⟨nF, hnF⟩ : ∃ n, n = F.length := ⟨_, rfl⟩
  obtain ⟨nH, hnH⟩ : ∃ n, n = Hs.length := ⟨_, rfl⟩
  obtain ⟨nL, hnL⟩ : ∃ n, n = L.length := ⟨_, rfl⟩
  have HR := Lib.hid hR
  have HB1 := Lib.hid hb1
  have HB2 := Lib.hid hb2
  have HNF := Lib.hid hnF
  have HNH := Lib.hid hnH
  have HNL := Lib.hid hnL
  have H1 := Lib.hid h1
  have H2 := Lib.hid h2
  have H3 := Lib.hid h3
  have SL := Lib.hid sL
  have SLr := Lib.hid sLr
  have SF := Lib.hid sF
  have SFr := Lib.hid sFr
  have SH := Lib.hid sH
  rw [← hnF, ← hnH, ← hnL]
  rw [← hnF] at sF
  rw [← hnH] at sH
  rw [← hnL] at sL
  clear hR hb1 hb2 hnF hnH hnL h1 h2 h3 sLr sFr
  obtain ⟨W, hW⟩ : ∃ W, W = w.alloc (.cells #[.int .i64 k, .slice a1 nL c1, .slice a2 nF c2, .int .i64 x, .slice a3 nH c3, .int .i64 o, .bool p] 30) := ⟨_, rfl⟩
  have HX0 := Lib.hid (show Bxd W w.heap.size [.int .i64 k, .slice a1 nL c1, .slice a2 nF c2, .int .i64 x, .slice a3 nH c3, .int .i64 o, .bool p] by rw [hW]; exact Bxd.new _ _ _)
  have HB0 := Lib.hid (show Below w.heap.size w W by rw [hW]; exact (Below.refl _ _).alloc (Nat.le_refl _) _)
  have HS0 := Lib.hid (show w.heap.size < W.heap.size by rw [hW]; simp)
  have HW := Lib.hid hW
  clear hW
  go_enter Tryz.func97, Tryz.ntmps97
  go_upto_region 1 with (fail)
  rw [← HW.out]
  have c0 := HX0.out.at 0 _ rfl
  have c1 := HX0.out.at 1 _ rfl
  have c2 := HX0.out.at 2 _ rfl
  have c3 := HX0.out.at 3 _ rfl
  have c4 := HX0.out.at 4 _ rfl
  have c5 := HX0.out.at 5 _ rfl
  have c6 := HX0.out.at 6 _ rfl
  go_wp2_with fail
  refine (specIsKeymap_q k _ L b1 HB1.out _ (by have := SL.out; unfold maxLen; omega) (fun l hl => by have := SLr.out l hl; unfold maxLen; omega) (by rw [HNL.out]; exact H1.out.below HB0.out)).mono ?_
  rintro r w1 ⟨rfl, hb⟩
  have X1 := Lib.hid (HB0.out.trans (hb.mono HB0.out.size))
  have HX1 := Lib.hid (HX0.out.below hb HS0.out)
  have HS1 := Lib.hid (Nat.lt_of_lt_of_le HS0.out hb.size)
  clear hb c0 c1 c2 c3 c4 c5 c6
  have y2 := HX1.out.at 2 _ rfl
  have y4 := HX1.out.at 4 _ rfl
  cases b1
  · obtain rfl : R = false := by rw [HR.out]; rfl
    go_wp2
    go_ret
    exact ⟨rfl, X1.out⟩
  · by_cases h4 : nF ≤ 4
    · have h4' : ¬ (4 : Int) < (nF : Int) := by omega
      go_wp2_with fail
      refine (specIsHeld_q _ Hs b2 HB2.out _ (by have := SH.out; unfold maxLen; omega) (by rw [HNH.out]; exact H3.out.below X1.out)).mono ?_
      rintro r w2 ⟨rfl, hb⟩
      have X2 := Lib.hid (X1.out.trans (hb.mono X1.out.size))
      have HX2 := Lib.hid (HX1.out.below hb HS1.out)
      have HS2 := Lib.hid (Nat.lt_of_lt_of_le HS1.out hb.size)
      clear hb y2 y4
      cases b2
      · obtain rfl : R = false := by rw [HR.out]; simp
        go_wp2
        go_ret
        exact ⟨rfl, X2.out⟩
      · have HR2 := Lib.hid (show R = ((mcsN F F.length && hfN k L.length Hs Hs.length) && (inB x 0 (2 ^ L.length - 1) && (decide (x % 2 = 0) && inB o 0 15))) by rw [HR.out, ← HNF.out, decide_eq_true h4]; rfl)
        go_wp2
        go_loopw [3] (fun i wr => ∃ j : Nat, j ≤ nF ∧ i = .int .i64 j ∧ mcsN F j = true ∧ Below w2.heap.size w2 wr) (fun i _ => nF - (intOf i).toNat)
        case atStart => exact ⟨0, Nat.zero_le _, rfl, rfl, Below.refl _ _⟩
        case round =>
          obtain ⟨j, hj, rfl, hm, hb⟩ := hrel
          have HX3 := Lib.hid (HX2.out.below hb HS2.out)
          have X3 := Lib.hid (X2.out.trans (hb.mono X2.out.size))
          have y2 := HX3.out.at 2 _ rfl
          by_cases hlt : j < nF
          · have hjF : j < F.length := by rw [← HNF.out]; exact hlt
            have hno : okMc (lD F j) = false → R = false := fun h0 => by rw [HR2.out, mcsN_no h0 _ hjF]; rfl
            have hnx : mcsN F (j + 1) = okMc (lD F j) := by rw [mcsN, hm, Bool.true_and]
            rcases RdS.cases (show LdT wr (.slice a2 nF c2) F from by rw [HNF.out]; exact H2.out.below X3.out) with ⟨hnil, _⟩ | ⟨b, off, cap, us, _, hv, hblt, hc⟩
            · exfalso; rw [hnil] at hjF; simp at hjF
            · obtain ⟨rfl, -, -⟩ := by simpa using hv
              obtain ⟨d0, hrow⟩ := hc j hjF
              have hrl : (lD F j).length ≤ 1048576 := lT_le SFr.out j
              obtain ⟨vr, hvr⟩ : ∃ v, v = uD us j := ⟨_, rfl⟩
              rw [← hvr] at d0 hrow
              obtain ⟨ra, rc, rfl⟩ := RdN.shape hrow
              obtain ⟨nr, hnr⟩ : ∃ n, n = (lD F j).length := ⟨_, rfl⟩
              rw [← hnr] at d0
              obtain ⟨mb, hmb⟩ : ∃ b, b = okMc (lD F j) := ⟨_, rfl⟩
              rw [← hmb] at hno hnx
              have HRow := Lib.hid hrow
              have HRl := Lib.hid hrl
              have HNr := Lib.hid hnr
              have HMb := Lib.hid hmb
              have HNo := Lib.hid hno
              have HNx := Lib.hid hnx
              have HBj := Lib.hid hb
              clear hc hrow hrl hnr hmb hno hnx hb hm hvr hv
              go_wp2_with fail
              refine (specIsMacro_any _ (lD F j) _ HRl.out (by rw [HNr.out]; exact HRow.out)).mono ?_
              rw [← HMb.out]
              rintro r w4 ⟨rfl, hb4⟩
              have HB4 := Lib.hid (HBj.out.trans (hb4.mono HBj.out.size))
              clear hb4 y2 d0
              cases mb
              · obtain rfl : R = false := HNo.out rfl
                go_wp2
                go_ret
                exact ⟨rfl, X2.out.trans (HB4.out.mono X2.out.size)⟩
              · go_wp2
                go_roundw
                case rel => exact ⟨j + 1, by omega, by go_num, HNx.out, HB4.out⟩
                case measure => simp [intOf]; omega
          · obtain rfl : j = nF := by omega
            have HMc := Lib.hid (show mcsN F F.length = true by rw [← HNF.out]; exact hm)
            have HBj := Lib.hid hb
            clear hm hb
            go_wp2
            clear y2
            go_loopw [4] (fun i wr => ∃ j : Nat, j ≤ nH ∧ i = .int .i64 j ∧ hfN k L.length Hs j = true ∧ Below w2.heap.size w2 wr) (fun i _ => nH - (intOf i).toNat)
            case atStart => exact ⟨0, Nat.zero_le _, rfl, rfl, HBj.out⟩
            case round =>
              obtain ⟨j2, hj2, rfl, hm2, hb⟩ := hrel
              have HX4 := Lib.hid (HX2.out.below hb HS2.out)
              have X4 := Lib.hid (X2.out.trans (hb.mono X2.out.size))
              have y4 := HX4.out.at 4 _ rfl
              by_cases hlt2 : j2 < nH
              · have hjH : j2 < Hs.length := by rw [← HNH.out]; exact hlt2
                have y0 := HX4.out.at 0 _ rfl
                have y1 := HX4.out.at 1 _ rfl
                obtain ⟨b3, off3, rfl, hb3, c0, c1', c2', c3', c4'⟩ := hd_at (show RdN wr (.slice a3 nH c3) Hs.length (flatHd Hs) from by rw [HNH.out]; exact H3.out.below X4.out) hjH
                have hft := hfit_iff k L.length (hdD Hs j2)
                have hno : hfit k L.length (hdD Hs j2) = false → R = false := fun h0 => by rw [HR2.out, hfN_no h0 _ hjH, Bool.and_false]; rfl
                have hnx : hfN k L.length Hs (j2 + 1) = hfit k L.length (hdD Hs j2) := by rw [hfN, hm2, Bool.true_and]
                obtain ⟨z, hz⟩ : ∃ z, z = hdD Hs j2 := ⟨_, rfl⟩
                rw [← hz] at c0 c1' c4' hft hno hnx
                obtain ⟨zh, zk, zc, zm, zn⟩ := z
                simp only at c0 c1' c4' hft
                rw [← HNL.out] at hft hno hnx
                have HFt := Lib.hid hft
                have HNo := Lib.hid hno
                have HNx := Lib.hid hnx
                have HBk := Lib.hid hb
                clear hft hno hnx hz hb hm2 c2' c3'
                by_cases q1 : k ≤ zh
                · obtain rfl : R = false := HNo.out (by rw [← Bool.not_eq_true, HFt.out]; omega)
                  go_upto_region 11 with (fail)
                  go_region
                  all_goals
                    go_wp2
                    go_ret
                    exact ⟨rfl, (X2.out.trans (HBk.out.mono X2.out.size)).drew⟩
                · by_cases q2 : zk = 9
                  · have hok : hfit k nL ⟨zh, zk, zc, zm, zn⟩ = true := HFt.out.2 ⟨by omega, .inl q2⟩
                    have HK := Lib.hid hok
                    subst q2
                    clear hok
                    go_upto_region 11 with (fail)
                    go_region
                    all_goals
                      go_wp2
                      go_roundw
                      case rel => exact ⟨j2 + 1, by omega, by go_num, by rw [← HNL.out, HNx.out]; exact HK.out, HBk.out.drew⟩
                      case measure => simp [intOf]; omega
                  · have e2 : (zk == 9) = false := beq_false_of_ne q2
                    have e3 : (zk != 9) = true := by simp [bne, e2]
                    by_cases q3 : (nL : Int) ≤ zn
                    · obtain rfl : R = false := HNo.out (by rw [← Bool.not_eq_true, HFt.out]; omega)
                      go_upto_region 11 with (fail)
                      go_region
                      all_goals
                        go_wp2
                        go_ret
                        exact ⟨rfl, (X2.out.trans (HBk.out.mono X2.out.size)).drew⟩
                    · have hok : hfit k nL ⟨zh, zk, zc, zm, zn⟩ = true := HFt.out.2 ⟨by omega, .inr (by show zn < (nL : Int); omega)⟩
                      have HK := Lib.hid hok
                      clear hok
                      go_upto_region 11 with (fail)
                      go_region
                      all_goals
                        go_wp2
                        go_roundw
                        case rel => exact ⟨j2 + 1, by omega, by go_num, by rw [← HNL.out, HNx.out]; exact HK.out, HBk.out.drew⟩
                        case measure => simp [intOf]; omega
              · obtain rfl : j2 = nH := by omega
                have y0 := HX4.out.at 0 _ rfl
                have y1 := HX4.out.at 1 _ rfl
                have y3 := HX4.out.at 3 _ rfl
                have y5 := HX4.out.at 5 _ rfl
                have hR3 : R = (inB x 0 (2 ^ nL - 1) && (decide (x % 2 = 0) && inB o 0 15)) := by
                  rw [HR2.out, HMc.out, ← HNL.out, ← HNH.out]
                  rw [← HNL.out] at hm2
                  rw [hm2]; rfl
                have HBk := Lib.hid (X2.out.trans (hb.mono X2.out.size))
                have hl14 := (okKm_at HB1.out.symm).2.1
                rw [← HNL.out] at hl14
                obtain ⟨b5, hb5⟩ : ∃ b, b = inB o 0 15 := ⟨_, rfl⟩
                rw [← hb5] at hR3
                have HB5 := Lib.hid hb5
                have HR3 := Lib.hid hR3
                clear hm2 hb hb5 hR3
                rcases (show nL = 1 ∨ nL = 2 ∨ nL = 3 ∨ nL = 4 by omega) with rfl | rfl | rfl | rfl
                · obtain ⟨b6, hb6⟩ : ∃ b, b = inB x 0 1 := ⟨_, rfl⟩
                  have HB6 := Lib.hid hb6
                  have HR4 := Lib.hid (show R = (b6 && (decide (x % 2 = 0) && b5)) by rw [HR3.out, hb6]; rfl)
                  cases b6
                  · obtain rfl : R = false := HR4.out
                    clear hb6
                    go_wp2
                    go_quiet ((go_at_call 98; exact Calls.quiet_of_same (inB_q x 0 1 false HB6.out _)))
                    go_wp2
                    go_ret
                    exact ⟨rfl, below_drewN HBk.out _⟩
                  · have hx0 : 0 ≤ x ∧ x ≤ 1 := of_decide_eq_true HB6.out.symm
                    clear hb6
                    obtain ⟨X, rfl⟩ : ∃ X : Nat, x = X := ⟨x.toNat, by omega⟩
                    rcases (show X % 2 = 0 ∨ X % 2 = 1 by omega) with hp | hp
                    · have ht : ((X : Int).tmod 2 == 0) = true := by
                        have e : (X : Int).tmod 2 = ((X % 2 : Nat) : Int) := rfl
                        rw [e, hp]; rfl
                      have hRb : R = b5 := by
                        have e : ((X : Int) % 2 = 0) := by omega
                        rw [HR4.out, decide_eq_true e]; rfl
                      clear hp
                      subst hRb
                      go_wp2
                      go_quiet (first | (go_at_call 98; first | with_reducible exact Calls.quiet_of_same (inB_q o 0 15 _ HB5.out _) | exact Calls.quiet_of_same (inB_q X 0 1 true HB6.out _)))
                      go_wp2
                      go_ret
                      exact ⟨by first | rfl | (cases R <;> rfl), below_drewN HBk.out _⟩
                    · have ht : ((X : Int).tmod 2 == 0) = false := by
                        have e : (X : Int).tmod 2 = ((X % 2 : Nat) : Int) := rfl
                        rw [e, hp]; rfl
                      have hRb : R = false := by
                        have e : ¬ ((X : Int) % 2 = 0) := by omega
                        rw [HR4.out, decide_eq_false e]; rfl
                      clear hp
                      subst hRb
                      go_wp2
                      go_quiet (first | (go_at_call 98; exact Calls.quiet_of_same (inB_q X 0 1 true HB6.out _)))
                      go_wp2
                      go_ret
                      exact ⟨by first | rfl | (cases R <;> rfl), below_drewN HBk.out _⟩
                · obtain ⟨b6, hb6⟩ : ∃ b, b = inB x 0 3 := ⟨_, rfl⟩
                  have HB6 := Lib.hid hb6
                  have HR4 := Lib.hid (show R = (b6 && (decide (x % 2 = 0) && b5)) by rw [HR3.out, hb6]; rfl)
                  cases b6
                  · obtain rfl : R = false := HR4.out
                    clear hb6
                    go_wp2
                    go_quiet ((go_at_call 98; exact Calls.quiet_of_same (inB_q x 0 3 false HB6.out _)))
                    go_wp2
                    go_ret
                    exact ⟨rfl, below_drewN HBk.out _⟩
                  · have hx0 : 0 ≤ x ∧ x ≤ 3 := of_decide_eq_true HB6.out.symm
                    clear hb6
                    obtain ⟨X, rfl⟩ : ∃ X : Nat, x = X := ⟨x.toNat, by omega⟩
                    rcases (show X % 2 = 0 ∨ X % 2 = 1 by omega) with hp | hp
                    · have ht : ((X : Int).tmod 2 == 0) = true := by
                        have e : (X : Int).tmod 2 = ((X % 2 : Nat) : Int) := rfl
                        rw [e, hp]; rfl
                      have hRb : R = b5 := by
                        have e : ((X : Int) % 2 = 0) := by omega
                        rw [HR4.out, decide_eq_true e]; rfl
                      clear hp
                      subst hRb
                      go_wp2
                      go_quiet (first | (go_at_call 98; first | with_reducible exact Calls.quiet_of_same (inB_q o 0 15 _ HB5.out _) | exact Calls.quiet_of_same (inB_q X 0 3 true HB6.out _)))
                      go_wp2
                      go_ret
                      exact ⟨by first | rfl | (cases R <;> rfl), below_drewN HBk.out _⟩
                    · have ht : ((X : Int).tmod 2 == 0) = false := by
                        have e : (X : Int).tmod 2 = ((X % 2 : Nat) : Int) := rfl
                        rw [e, hp]; rfl
                      have hRb : R = false := by
                        have e : ¬ ((X : Int) % 2 = 0) := by omega
                        rw [HR4.out, decide_eq_false e]; rfl
                      clear hp
                      subst hRb
                      go_wp2
                      go_quiet (first | (go_at_call 98; exact Calls.quiet_of_same (inB_q X 0 3 true HB6.out _)))
                      go_wp2
                      go_ret
                      exact ⟨by first | rfl | (cases R <;> rfl), below_drewN HBk.out _⟩
                · obtain ⟨b6, hb6⟩ : ∃ b, b = inB x 0 7 := ⟨_, rfl⟩
                  have HB6 := Lib.hid hb6
                  have HR4 := Lib.hid (show R = (b6 && (decide (x % 2 = 0) && b5)) by rw [HR3.out, hb6]; rfl)
                  cases b6
                  · obtain rfl : R = false := HR4.out
                    clear hb6
                    go_wp2
                    go_quiet ((go_at_call 98; exact Calls.quiet_of_same (inB_q x 0 7 false HB6.out _)))
                    go_wp2
                    go_ret
                    exact ⟨rfl, below_drewN HBk.out _⟩
                  · have hx0 : 0 ≤ x ∧ x ≤ 7 := of_decide_eq_true HB6.out.symm
                    clear hb6
                    obtain ⟨X, rfl⟩ : ∃ X : Nat, x = X := ⟨x.toNat, by omega⟩
                    rcases (show X % 2 = 0 ∨ X % 2 = 1 by omega) with hp | hp
                    · have ht : ((X : Int).tmod 2 == 0) = true := by
                        have e : (X : Int).tmod 2 = ((X % 2 : Nat) : Int) := rfl
                        rw [e, hp]; rfl
                      have hRb : R = b5 := by
                        have e : ((X : Int) % 2 = 0) := by omega
                        rw [HR4.out, decide_eq_true e]; rfl
                      clear hp
                      subst hRb
                      go_wp2
                      go_quiet (first | (go_at_call 98; first | with_reducible exact Calls.quiet_of_same (inB_q o 0 15 _ HB5.out _) | exact Calls.quiet_of_same (inB_q X 0 7 true HB6.out _)))
                      go_wp2
                      go_ret
                      exact ⟨by first | rfl | (cases R <;> rfl), below_drewN HBk.out _⟩
                    · have ht : ((X : Int).tmod 2 == 0) = false := by
                        have e : (X : Int).tmod 2 = ((X % 2 : Nat) : Int) := rfl
                        rw [e, hp]; rfl
                      have hRb : R = false := by
                        have e : ¬ ((X : Int) % 2 = 0) := by omega
                        rw [HR4.out, decide_eq_false e]; rfl
                      clear hp
                      subst hRb
                      go_wp2
                      go_quiet (first | (go_at_call 98; exact Calls.quiet_of_same (inB_q X 0 7 true HB6.out _)))
                      go_wp2
                      go_ret
                      exact ⟨by first | rfl | (cases R <;> rfl), below_drewN HBk.out _⟩
                · obtain ⟨b6, hb6⟩ : ∃ b, b = inB x 0 15 := ⟨_, rfl⟩
                  have HB6 := Lib.hid hb6
                  have HR4 := Lib.hid (show R = (b6 && (decide (x % 2 = 0) && b5)) by rw [HR3.out, hb6]; rfl)
                  cases b6
                  · obtain rfl : R = false := HR4.out
                    clear hb6
                    go_wp2
                    go_quiet ((go_at_call 98; exact Calls.quiet_of_same (inB_q x 0 15 false HB6.out _)))
                    go_wp2
                    go_ret
                    exact ⟨rfl, below_drewN HBk.out _⟩
                  · have hx0 : 0 ≤ x ∧ x ≤ 15 := of_decide_eq_true HB6.out.symm
                    clear hb6
                    obtain ⟨X, rfl⟩ : ∃ X : Nat, x = X := ⟨x.toNat, by omega⟩
                    rcases (show X % 2 = 0 ∨ X % 2 = 1 by omega) with hp | hp
                    · have ht : ((X : Int).tmod 2 == 0) = true := by
                        have e : (X : Int).tmod 2 = ((X % 2 : Nat) : Int) := rfl
                        rw [e, hp]; rfl
                      have hRb : R = b5 := by
                        have e : ((X : Int) % 2 = 0) := by omega
                        rw [HR4.out, decide_eq_true e]; rfl
                      clear hp
                      subst hRb
                      go_wp2
                      go_quiet (first | (go_at_call 98; first | with_reducible exact Calls.quiet_of_same (inB_q o 0 15 _ HB5.out _) | exact Calls.quiet_of_same (inB_q X 0 15 true HB6.out _)))
                      go_wp2
                      go_ret
                      exact ⟨by first | rfl | (cases R <;> rfl), below_drewN HBk.out _⟩
                    · have ht : ((X : Int).tmod 2 == 0) = false := by
                        have e : (X : Int).tmod 2 = ((X % 2 : Nat) : Int) := rfl
                        rw [e, hp]; rfl
                      have hRb : R = false := by
                        have e : ¬ ((X : Int) % 2 = 0) := by omega
                        rw [HR4.out, decide_eq_false e]; rfl
                      clear hp
                      subst hRb
                      go_wp2
                      go_quiet (first | (go_at_call 98; exact Calls.quiet_of_same (inB_q X 0 15 true HB6.out _)))
                      go_wp2
                      go_ret
                      exact ⟨by first | rfl | (cases R <;> rfl), below_drewN HBk.out _⟩
    · have h4' : (4 : Int) < (nF : Int) := by omega
      obtain rfl : R = false := by rw [HR.out, ← HNF.out, decide_eq_false h4]; simp
      go_wp2
      go_ret
      exact ⟨rfl, X1.out⟩

end Go.Proofs.YtjfckchoklepbaaGreat
