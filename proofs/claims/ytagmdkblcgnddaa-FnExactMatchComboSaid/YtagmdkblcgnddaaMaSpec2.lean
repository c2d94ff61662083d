/- DERIVED. The reference's MatchCombo. -/
import Derived.Test.YtagmdkblcgnddaaMaSpec
namespace Go.Proofs.Ytagmdkblcgnddaa
open Go.RowKit

set_option maxRecDepth 100000 in
set_option maxHeartbeats 8000000 in
theorem specMatchCombo_q (u1 : Value) (l : List Cb) (t : Int) (u2 : Value) (Q : List Ev) (now x1 x2 x3 : Int) (hr : matV l t Q now = (x1, x2, x3)) (w : World) (hn1 : l.length ≤ maxLen) (hn2 : Q.length ≤ 1048576) (h1 : RdN w u1 l.length (flatCb l)) (h2 : RdN w u2 Q.length (flatEv Q)) :
    Calls Try.prog 53 #[u1, .int .i64 t, u2, .int .i64 now] w fun e w' => e = .returned (.tuple #[.int .i64 x1, .int .i64 x2, .int .i64 x3]) ∧ Below w.heap.size w w' := by
  obtain ⟨va, hva⟩ : ∃ v, v = okCbs l := ⟨_, rfl⟩
  obtain ⟨vb, hvb⟩ : ∃ v, v = inB t 1 200 := ⟨_, rfl⟩
  obtain ⟨a2, cap2, rfl⟩ := rdN_shape h2
  obtain ⟨N, hN⟩ : ∃ N, N = Q.length := ⟨_, rfl⟩
  have HVA := Lib.hid hva
  have HVB := Lib.hid hvb
  have HR := Lib.hid hr
  have H1 := Lib.hid h1
  have H2 := Lib.hid h2
  have HN1 := Lib.hid hn1
  have HNN := Lib.hid hN
  rw [← hN] at hn2 ⊢
  clear hva hvb hr h1 h2 hn1 hN
  go_enter Try.func53, Try.ntmps53
  go_wp2_with fail
  refine (specIsCombos_q u1 l va HVA.out _ HN1.out H1.out).mono ?_
  rintro e w1 ⟨rfl, hb⟩
  have HB1 := Lib.hid hb
  clear hb
  cases va
  · skip
    have hq : matV l t Q now = noM := by cases Q with | nil => rfl | cons f r => rw [matV, ← HVA.out]; rfl
    have hq2 := HR.out.symm.trans hq
    obtain ⟨rfl, rfl, rfl⟩ : x1 = 0 ∧ x2 = 0 ∧ x3 = -1 := by simpa [noM] using hq2
    clear hq hq2
    go_wp2
    go_ret3
    exact ⟨rfl, HB1.out⟩
  · go_wp2_with fail
    refine (inB_q t 1 200 vb HVB.out _).mono ?_
    rintro e w0 ⟨rfl, rfl⟩
    cases vb
    · skip
      have hq : matV l t Q now = noM := by cases Q with | nil => rfl | cons f r => rw [matV, ← HVA.out, ← HVB.out]; rfl
      have hq2 := HR.out.symm.trans hq
      obtain ⟨rfl, rfl, rfl⟩ : x1 = 0 ∧ x2 = 0 ∧ x3 = -1 := by simpa [noM] using hq2
      clear hq hq2
      go_wp2
      go_ret3
      exact ⟨rfl, HB1.out⟩
    · cases Q with
      | nil =>
        obtain rfl : N = 0 := HNN.out
        have hq : matV l t [] now = noM := by rfl
        have hq2 := HR.out.symm.trans hq
        obtain ⟨rfl, rfl, rfl⟩ : x1 = 0 ∧ x2 = 0 ∧ x3 = -1 := by simpa [noM] using hq2
        clear hq hq2
        go_wp2
        go_ret3
        exact ⟨rfl, HB1.out⟩
      | cons f r =>
        have hNr : N = r.length + 1 := HNN.out
        obtain ⟨b, off, rfl, hlt, c0, c1, c2⟩ := ev_at H2.out (j := 0) (by simp)
        have hf0 : evD (f :: r) 0 = f := rfl
        rw [hf0] at c0 c1 c2
        have hm : matV l t (f :: r) now = if (swOk f && f.d) = false then noM else if fitsV l (2 ^ f.k.toNat) = false then (1, f.t, -1) else matL l (f.t + t) now r (2 ^ f.k.toNat) 1 := by rw [matV, ← HVA.out, ← HVB.out, Bool.true_and, Bool.true_and]
        obtain ⟨ft, fk, fd⟩ := f
        simp only at c0 c1 c2 hm
        simp only [Nat.zero_mul, Nat.add_zero] at c0 c1 c2
        have hN0 : ((N : Int) == 0) = false := by rw [hNr]; simp; omega
        have hN1 : (0 : Int) < (N : Int) := by omega
        have r0 := (HB1.out.cell (p := ⟨b, off, none⟩) hlt).trans c0
        have r1 := (HB1.out.cell (p := ⟨b, off + 1, none⟩) hlt).trans c1
        have r2 := (HB1.out.cell (p := ⟨b, off + 2, none⟩) hlt).trans c2
        have HM := Lib.hid hm
        have HNr := Lib.hid hNr
        have HC0 := Lib.hid c0
        have HC1 := Lib.hid c1
        clear hm hNr hf0 c0 c1 c2
        obtain ⟨sv, hsv⟩ : ∃ v, v = swOk ⟨ft, fk, fd⟩ := ⟨_, rfl⟩
        have HSV := Lib.hid hsv
        clear hsv
        go_wp2_with fail
        refine (specSwitch_q ft fk fd sv HSV.out _).mono ?_
        rintro e w2 ⟨rfl, hb⟩
        have HB2 := Lib.hid (HB1.out.trans (hb.mono HB1.out.size))
        have hb2 := Nat.lt_of_lt_of_le hlt HB1.out.size
        have s0 := (hb.cell (p := ⟨b, off, none⟩) hb2).trans r0
        have s1 := (hb.cell (p := ⟨b, off + 1, none⟩) hb2).trans r1
        have s2 := (hb.cell (p := ⟨b, off + 2, none⟩) hb2).trans r2
        clear hb r0 r1 r2 hb2
        cases sv
        · skip
          have hq2 := HR.out.symm.trans (HM.out.trans (if_pos (by rw [← HSV.out]; rfl)))
          obtain ⟨rfl, rfl, rfl⟩ : x1 = 0 ∧ x2 = 0 ∧ x3 = -1 := by simpa [noM] using hq2
          clear hq2
          go_wp2
          go_ret3
          exact ⟨rfl, HB2.out⟩
        · cases fd
          · skip
            have hq2 := HR.out.symm.trans (HM.out.trans (if_pos (by simp)))
            obtain ⟨rfl, rfl, rfl⟩ : x1 = 0 ∧ x2 = 0 ∧ x3 = -1 := by simpa [noM] using hq2
            clear hq2
            go_wp2
            go_ret3
            exact ⟨rfl, HB2.out⟩
          · have hkey := swOk_key HSV.out.symm
            simp only at hkey
            obtain ⟨kn, rfl⟩ := Int.eq_ofNat_of_zero_le hkey.2.2.1
            have hk23 : kn ≤ 23 := by omega
            have hft : 0 ≤ ft ∧ ft ≤ 1000000 := by omega
            have ht1 : 1 ≤ t ∧ t ≤ 200 := of_decide_eq_true HVB.out.symm
            have HKey := Lib.hid (And.intro hft ht1)
            clear hkey
            have hw := wrap64_pow62 (k := kn) (by omega)
            have hp : 2 ^ kn < 16777216 := bit24 (by omega)
            obtain ⟨S0, hS0⟩ : ∃ p, p = 2 ^ kn := ⟨_, rfl⟩
            have hm2 : matV l t (⟨ft, (kn : Int), true⟩ :: r) now = if fitsV l S0 = false then (1, ft, -1) else matL l (ft + t) now r S0 1 := by rw [HM.out, if_neg (by rw [← HSV.out]; simp), Int.toNat_natCast, ← hS0]
            rw [← hS0] at hw hp
            have HM2 := Lib.hid (HR.out.symm.trans hm2)
            have HP := Lib.hid hp
            clear hm2 hS0 hp ht1 hft
            obtain ⟨fin, hfin⟩ : ∃ f, f = ft + t := ⟨_, rfl⟩
            have hfw : wrap64 (ft + t) = fin := by rw [hfin]; have := HKey.out; exact IntWalk.wrap64_in _ ⟨by omega, by omega⟩
            obtain ⟨fv, hfv⟩ : ∃ v, v = fitsV l S0 := ⟨_, rfl⟩
            have HFV := Lib.hid hfv
            have HFin := Lib.hid hfin
            clear hfv hfin
            go_wp2_with fail
            refine (specFits_q u1 l S0 fv HFV.out _ HN1.out (H1.out.below HB2.out)).mono ?_
            rintro e w0 ⟨rfl, rfl⟩
            cases fv
            · have hq2 := HM2.out.trans (if_pos HFV.out.symm)
              obtain ⟨rfl, rfl, rfl⟩ : x1 = 1 ∧ x2 = ft ∧ x3 = -1 := by simpa using hq2
              clear hq2
              go_upto_region 6 with (fail)
              go_quiet (fail)
              go_wp2
              go_ret3
              exact ⟨rfl, below_drewN HB2.out _⟩
            · have HML := Lib.hid (show (x1, x2, x3) = matL l fin now r S0 1 by rw [HM2.out, if_neg (by rw [← HFV.out]; simp), HFin.out])
              clear s0 s1 s2
              go_wp2
              go_loopw [11, 13, 14, 15, 16, 17] (fun s n at' _ _ _ wr => ∃ (j S : Nat), 1 ≤ j ∧ j ≤ N ∧ s = .int .i64 (S : Int) ∧ n = .int .i64 (j : Int) ∧ at' = .int .i64 fin ∧ S < 16777216 ∧ (x1, x2, x3) = matL l fin now (r.drop (j - 1)) S j ∧ Below w.heap.size w wr) (fun _ n _ _ _ _ _ => N - (intOf n).toNat)
              case atStart => exact ⟨1, S0, Nat.le_refl _, by rw [HNr.out]; omega, rfl, rfl, rfl, HP.out, HML.out, HB2.out⟩
              case round =>
                obtain ⟨j, S, hj1, hj, rfl, rfl, rfl, hS, hd, hb⟩ := hrel
                have HB := Lib.hid hb
                clear hb
                obtain ⟨po, hpo⟩ : ∃ p, p = outV l S := ⟨_, rfl⟩
                obtain ⟨px, pm⟩ := po
                have HPO := Lib.hid hpo.symm
                have hfm : ∀ at', finM l S j at' = if px < 0 then (1, at', px) else ((j : Int), at', px) := fun at' => by rw [finM, ← hpo]
                have HFM := Lib.hid hfm
                clear hpo hfm
                by_cases hlt' : j < N
                · obtain ⟨i, hji⟩ : ∃ i, j = i + 1 := ⟨j - 1, by omega⟩
                  have hir : i < r.length := by have := HNr.out; omega
                  rw [show j - 1 = i by omega] at hd
                  have hdrop : r.drop i = evD r i :: r.drop j := by rw [hji, List.drop_eq_getElem_cons hir, evD]; simp [List.getElem?_eq_getElem hir]
                  have hev : evD (⟨ft, (kn : Int), true⟩ :: r) j = evD r i := by rw [hji]; rfl
                  obtain ⟨b', off', hbe, _, c0, c1, c2⟩ := ev_at H2.out (j := j) (by have := HNr.out; simp; omega)
                  obtain ⟨rfl, rfl⟩ : b = b' ∧ off = off' := by simpa using hbe
                  rw [hev] at c0 c1 c2
                  rw [hdrop] at hd
                  obtain ⟨e, he⟩ : ∃ e, e = evD r i := ⟨_, rfl⟩
                  rw [← he] at c0 c1 c2 hd
                  obtain ⟨et, ek, ed⟩ := e
                  simp only at c0 c1 c2
                  rw [matL] at hd
                  simp only at hd
                  have r0 := (HB.out.cell (p := ⟨b, off + j * 3, none⟩) hlt).trans c0
                  have r1 := (HB.out.cell (p := ⟨b, off + j * 3 + 1, none⟩) hlt).trans c1
                  have r2 := (HB.out.cell (p := ⟨b, off + j * 3 + 2, none⟩) hlt).trans c2
                  have hij : (j : Int) < (N : Int) := by omega
                  have hij0 : (0 : Int) ≤ (j : Int) := by omega
                  have hne : ((j : Int) == (N : Int)) = false := by simp; omega
                  have HJI := Lib.hid hji
                  have HD := Lib.hid hd
                  clear c0 c1 c2 hd hdrop hev hbe he hji hir
                  obtain ⟨ov, hov⟩ : ∃ v, v = swOk ⟨et, ek, ed⟩ := ⟨_, rfl⟩
                  have HOV := Lib.hid hov
                  go_upto_region 13 with (fail)
                  obtain ⟨U, hU⟩ : ∃ U, U = wr.alloc (.cells #[.int .i64 et, .int .i64 ek, .bool ed] 36) := ⟨_, rfl⟩
                  obtain ⟨g, hg⟩ : ∃ g, g = wr.heap.size := ⟨_, rfl⟩
                  have hbx : Bxd U g [.int .i64 et, .int .i64 ek, .bool ed] := by rw [hU, hg]; exact Bxd.new _ _ _
                  have hu : Below wr.heap.size wr U := by rw [hU]; exact (Below.refl _ _).alloc (Nat.le_refl _) _
                  have hgs : g < U.heap.size := by rw [hU, hg]; simp
                  rw [← hU, ← hg]
                  have HBU := Lib.hid (HB.out.trans (hu.mono HB.out.size))
                  have HGX := Lib.hid hbx
                  have HGS := Lib.hid hgs
                  clear hU hg hbx hu hgs r0 r1 r2 hov
                  have g0 := HGX.out.at 0 _ rfl
                  have g1 := HGX.out.at 1 _ rfl
                  have g2 := HGX.out.at 2 _ rfl
                  go_wp2_with fail
                  refine (specSwitch_q et ek ed ov HOV.out _).mono ?_
                  rintro e w3 ⟨rfl, hb⟩
                  have HB3 := Lib.hid (HBU.out.trans (hb.mono HBU.out.size))
                  have HG3 := Lib.hid (HGX.out.below hb HGS.out)
                  clear hb g0 g1 g2
                  have g0 := HG3.out.at 0 _ rfl
                  have g1 := HG3.out.at 1 _ rfl
                  have g2 := HG3.out.at 2 _ rfl
                  cases ov
                  · have hq := HD.out.trans (if_pos HOV.out.symm)
                    obtain ⟨rfl, rfl, rfl⟩ : x1 = 0 ∧ x2 = 0 ∧ x3 = -1 := by simpa [noM] using hq
                    clear hq
                    go_wp2
                    go_ret3
                    exact ⟨rfl, HB3.out⟩
                  · have hd2 := HD.out.trans (if_neg (by rw [← HOV.out]; simp))
                    have hkey := swOk_key HOV.out.symm
                    simp only at hkey
                    obtain ⟨en, rfl⟩ := Int.eq_ofNat_of_zero_le hkey.2.2.1
                    have he23 : en ≤ 23 := by omega
                    clear hkey
                    by_cases hte : fin ≤ et
                    · rw [if_pos hte] at hd2
                      have HQ := Lib.hid hd2
                      clear hd2
                      go_wp2_with fail
                      refine (specOut_q u1 l S px pm HPO.out _ HN1.out (H1.out.below HB3.out)).mono ?_
                      rintro e w0 ⟨rfl, rfl⟩
                      have hq := HQ.out.trans (HFM.out _)
                      by_cases hpx : px < 0
                      · rw [if_pos hpx] at hq
                        obtain ⟨rfl, rfl, rfl⟩ : x1 = 1 ∧ x2 = fin ∧ x3 = px := by simpa using hq
                        clear hq
                        go_wp2
                        go_ret3
                        exact ⟨rfl, HB3.out⟩
                      · rw [if_neg hpx] at hq
                        obtain ⟨rfl, rfl, rfl⟩ : x1 = (j : Int) ∧ x2 = fin ∧ x3 = px := by simpa using hq
                        clear hq
                        go_wp2
                        go_ret3
                        exact ⟨rfl, HB3.out⟩
                    · rw [if_neg hte, Int.toNat_natCast] at hd2
                      have hw2 := wrap64_pow62 (k := en) (by omega)
                      have hp2 : 2 ^ en < 16777216 := bit24 (by omega)
                      have hx2 := or_nat S (2 ^ en) (by omega) (by omega)
                      have hx3 := or24 hS (show en < 24 by omega)
                      obtain ⟨p, hpe⟩ : ∃ p, p = 2 ^ en := ⟨_, rfl⟩
                      rw [← hpe] at hw2 hp2 hx2 hx3 hd2
                      obtain ⟨S2, hS2⟩ : ∃ s, s = S ||| p := ⟨_, rfl⟩
                      rw [← hS2] at hx2 hx3 hd2
                      obtain ⟨f2, hf2⟩ : ∃ v, v = fitsV l S2 := ⟨_, rfl⟩
                      obtain ⟨q2, hq2⟩ : ∃ q, q = outV l S2 := ⟨_, rfl⟩
                      rw [← hf2, ← hq2] at hd2
                      obtain ⟨qx, qm⟩ := q2
                      simp only at hd2
                      have HX3 := Lib.hid hx3
                      have HF2 := Lib.hid hf2
                      have HQ2 := Lib.hid hq2.symm
                      have HD2 := Lib.hid hd2
                      clear hpe hS2 hf2 hq2 hd2 hx3 hp2
                      cases ed
                      · have HQ := Lib.hid (HD2.out.trans (if_pos (by simp)))
                        go_wp2_with fail
                        refine (specOut_q u1 l S px pm HPO.out _ HN1.out (H1.out.below HB3.out)).mono ?_
                        rintro e w0 ⟨rfl, rfl⟩
                        have hq := HQ.out.trans (HFM.out _)
                        by_cases hpx : px < 0
                        · rw [if_pos hpx] at hq
                          obtain ⟨rfl, rfl, rfl⟩ : x1 = 1 ∧ x2 = et ∧ x3 = px := by simpa using hq
                          clear hq
                          go_wp2
                          go_ret3
                          exact ⟨rfl, HB3.out⟩
                        · rw [if_neg hpx] at hq
                          obtain ⟨rfl, rfl, rfl⟩ : x1 = (j : Int) ∧ x2 = et ∧ x3 = px := by simpa using hq
                          clear hq
                          go_wp2
                          go_ret3
                          exact ⟨rfl, HB3.out⟩
                      · go_wp2_with fail
                        refine (specFits_q u1 l S2 f2 HF2.out _ HN1.out (H1.out.below HB3.out)).mono ?_
                        rintro e w0 ⟨rfl, rfl⟩
                        cases f2
                        · have HQ := Lib.hid (HD2.out.trans (if_pos (by simp)))
                          go_wp2_with fail
                          refine (specOut_q u1 l S px pm HPO.out _ HN1.out (H1.out.below HB3.out)).mono ?_
                          rintro e w0 ⟨rfl, rfl⟩
                          have hq := HQ.out.trans (HFM.out _)
                          by_cases hpx : px < 0
                          · rw [if_pos hpx] at hq
                            obtain ⟨rfl, rfl, rfl⟩ : x1 = 1 ∧ x2 = et ∧ x3 = px := by simpa using hq
                            clear hq
                            go_wp2
                            go_ret3
                            exact ⟨rfl, HB3.out⟩
                          · rw [if_neg hpx] at hq
                            obtain ⟨rfl, rfl, rfl⟩ : x1 = (j : Int) ∧ x2 = et ∧ x3 = px := by simpa using hq
                            clear hq
                            go_wp2
                            go_ret3
                            exact ⟨rfl, HB3.out⟩
                        · have HD3 := Lib.hid (HD2.out.trans (if_neg (by simp)))
                          go_wp2_with fail
                          refine (specOut_q u1 l S2 qx qm HQ2.out _ HN1.out (H1.out.below HB3.out)).mono ?_
                          rintro e w0 ⟨rfl, rfl⟩
                          by_cases hqx : 0 ≤ qx
                          · cases qm
                            · have hq := HD3.out.trans (if_pos (by simp [hqx]))
                              obtain ⟨rfl, rfl, rfl⟩ : x1 = ((j + 1 : Nat) : Int) ∧ x2 = et ∧ x3 = qx := by simpa using hq
                              clear hq
                              go_upto_region 22 with (fail)
                              go_quiet (fail)
                              go_wp2
                              go_ret3
                              exact ⟨rfl, below_drewN HB3.out _⟩
                            · skip
                              have HQ := Lib.hid (HD3.out.trans (if_neg (by simp)))
                              clear g0 g1 g2
                              go_wp2
                              go_roundw
                              case rel => exact ⟨j + 1, S2, by omega, by omega, rfl, by go_num, rfl, HX3.out, by rw [Nat.add_sub_cancel]; exact HQ.out, HB3.out⟩
                              case measure => simp [intOf]; omega
                          · skip
                            have HQ := Lib.hid (HD3.out.trans (if_neg (by simp [hqx])))
                            clear g0 g1 g2
                            go_wp2
                            go_roundw
                            case rel => exact ⟨j + 1, S2, by omega, by omega, rfl, by go_num, rfl, HX3.out, by rw [Nat.add_sub_cancel]; exact HQ.out, HB3.out⟩
                            case measure => simp [intOf]; omega
                · obtain rfl : j = N := by omega
                  rw [List.drop_of_length_le (by have := HNr.out; omega), matL] at hd
                  have hne : ((j : Int) == (j : Int)) = true := by simp
                  by_cases hnow : now < fin
                  · rw [if_pos hnow] at hd
                    obtain ⟨rfl, rfl, rfl⟩ : x1 = 0 ∧ x2 = 0 ∧ x3 = -1 := by simpa [noM] using hd
                    clear hd
                    go_wp2
                    go_ret3
                    exact ⟨rfl, HB.out⟩
                  · rw [if_neg hnow] at hd
                    have HQ := Lib.hid hd
                    clear hd
                    go_wp2_with fail
                    refine (specOut_q u1 l S px pm HPO.out _ HN1.out (H1.out.below HB.out)).mono ?_
                    rintro e w0 ⟨rfl, rfl⟩
                    have hq := HQ.out.trans (HFM.out _)
                    by_cases hpx : px < 0
                    · rw [if_pos hpx] at hq
                      obtain ⟨rfl, rfl, rfl⟩ : x1 = 1 ∧ x2 = fin ∧ x3 = px := by simpa using hq
                      clear hq
                      go_wp2
                      go_ret3
                      exact ⟨rfl, HB.out⟩
                    · rw [if_neg hpx] at hq
                      obtain ⟨rfl, rfl, rfl⟩ : x1 = (j : Int) ∧ x2 = fin ∧ x3 = px := by simpa using hq
                      clear hq
                      go_wp2
                      go_ret3
                      exact ⟨rfl, HB.out⟩

end Go.Proofs.Ytagmdkblcgnddaa
