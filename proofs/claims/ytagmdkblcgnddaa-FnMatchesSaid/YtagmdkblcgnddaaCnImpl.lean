/- DERIVED. The program's switchesDown: the switches that are down before the queue, and whether what is active is right. -/
import Derived.Test.YtagmdkblcgnddaaMpCb
import Derived.Test.YtagmdkblcgnddaaCnFn
import Derived.Test.YtagmdkblcgnddaaCbImpl
import Derived.Deep.RegionHeld3
namespace Go.Proofs.Ytagmdkblcgnddaa
open Go.RowKit

theorem makeM (t : TypeId) (ht : Try.prog.underlying t = some (.map 3 3)) (n : Int) (w : World) : (Instr.makeMap t (some (.int .i64 n))).run Try.prog w = .ok (.map (some w.heap.size)) (w.alloc (.map #[] 0)) := by
  have h := run_underlying (w := w) ht
  simp [Instr.makeMap, h, asInt, newObj, Result.andThen]
  rfl

set_option maxRecDepth 100000 in
set_option maxHeartbeats 4000000 in
theorem switchesDown_q (c : Cn) (u1 u2 u3 : Value) (x : Int) (ok : Bool) (hr : (x, ok) = sdV c) (w : World) (hC : okCbs c.C = true) (hn3 : c.A.length ≤ maxLen) (hw : AvWf c.A) (h : RdCn w c u1 u2 u3) :
    Calls Try.prog 73 #[c.val u1 u2 u3] w fun e w' => e = .returned (.tuple #[.int .i64 x, .bool ok]) ∧ Below w.heap.size w w' := by
  have hmk := makeM 111 Try.underlying111
  obtain ⟨a1, cap1, rfl⟩ := rdN_shape h.cs
  obtain ⟨a3, cap3, rfl⟩ := rdN_shape h.av
  obtain ⟨vd, hvd⟩ : ∃ v, v = inB c.d 0 16777215 := ⟨_, rfl⟩
  have HVD := Lib.hid hvd
  have HR := Lib.hid hr
  have H1 := Lib.hid h.cs
  have H3 := Lib.hid h.av
  have h8 : c.C.length ≤ 8 := by rw [okCbs, Bool.and_eq_true] at hC; exact of_decide_eq_true hC.2
  obtain ⟨n1, hN1⟩ : ∃ n, n = c.C.length := ⟨_, rfl⟩
  obtain ⟨n3, hN3⟩ : ∃ n, n = c.A.length := ⟨_, rfl⟩
  rw [← hN1] at h8 ⊢
  rw [← hN3] at hn3 ⊢
  unfold maxLen at hn3
  have HN1 := Lib.hid hN1
  have HN3 := Lib.hid hN3
  have HC := Lib.hid hC
  have HWf := Lib.hid hw
  clear hvd hr h hN1 hN3 hC hw
  obtain ⟨W, hW⟩ : ∃ W, W = w.alloc (.cells #[.slice a1 n1 cap1, .int .i64 c.t, u2, .int .i64 c.n, .int .i64 c.k, .int .i64 c.d, .slice a3 n3 cap3] 28) := ⟨_, rfl⟩
  have HX0 := Lib.hid (show Bxd W w.heap.size [.slice a1 n1 cap1, .int .i64 c.t, u2, .int .i64 c.n, .int .i64 c.k, .int .i64 c.d, .slice a3 n3 cap3] by rw [hW]; exact Bxd.new _ _ _)
  have HB0 := Lib.hid (show Below w.heap.size w W by rw [hW]; exact (Below.refl _ _).alloc (Nat.le_refl _) _)
  have HS0 := Lib.hid (show w.heap.size < W.heap.size by rw [hW]; simp)
  have HW := Lib.hid hW
  clear hW
  go_enter Try.func73, Try.ntmps73
  go_upto_region 1 with (fail)
  rw [← HW.out]
  have x0 := HX0.out.at 0 _ rfl
  have x5 := HX0.out.at 5 _ rfl
  go_wp2_with fail
  refine (isMask24_q c.d vd HVD.out _).mono ?_
  rintro e w0 ⟨rfl, rfl⟩
  cases vd
  · have hs : sdV c = (0, false) := by rw [sdV, okAvs, ← HVD.out]; simp
    have hr := HR.out
    rw [hs] at hr
    obtain ⟨rfl, rfl⟩ : x = 0 ∧ ok = false := by simpa using hr
    go_wp2
    go_ret2
    exact ⟨rfl, HB0.out⟩
  · have hsd : sdV c = if avN c.C c.d c.A c.A.length = true then (hlN c.d c.A c.A.length, true) else (0, false) := by rw [sdV, okAvs, ← HVD.out, Bool.and_true]; rfl
    have HSD := Lib.hid (HR.out.trans hsd)
    clear hsd
    go_upto_region 4 with (fail)
    obtain ⟨V, hV⟩ : ∃ V, V = W.alloc (.map #[] 0) := ⟨_, rfl⟩
    obtain ⟨gm, hgm⟩ : ∃ g, g = W.heap.size := ⟨_, rfl⟩
    have hm0 : Mp V gm 0 [] := by rw [hV, hgm]; exact Mp.made W
    have hv : Below W.heap.size W V := by rw [hV]; exact (Below.refl _ _).alloc (Nat.le_refl _) _
    rw [← hV, ← hgm]
    have HBV := Lib.hid (HB0.out.trans (hv.mono HB0.out.size))
    have HBWV := Lib.hid hv
    have HM0 := Lib.hid hm0
    have HGM := Lib.hid (show W.heap.size ≤ gm by omega)
    have HXV := Lib.hid (HX0.out.below hv HS0.out)
    clear hV hgm hm0 hv x0 x5
    have x0 := HXV.out.at 0 _ rfl
    go_wp2
    clear x0
    go_loopw [22, 6] (fun i _ wr => ∃ j : Nat, j ≤ n1 ∧ i = .int .i64 j ∧ Mp wr gm j (outsOf (c.C.take j)) ∧ Below w.heap.size w wr ∧ Below W.heap.size W wr) (fun i _ _ => n1 - (intOf i).toNat)
    case atStart => exact ⟨0, Nat.zero_le _, rfl, HM0.out, HBV.out, HBWV.out⟩
    case round =>
      obtain ⟨j, hj, rfl, hm, hb, hbW⟩ := hrel
      by_cases hlt' : j < n1
      · have hjl : j < c.C.length := by rw [← HN1.out]; exact hlt'
        obtain ⟨b, off, rfl, hlt, c0, c1⟩ := cb_at H1.out hjl
        have hfit := cbFit_keys (okCbs_fit HC.out hjl)
        have hno := outsOf_new HC.out hjl
        have htk := outsOf_take hjl
        obtain ⟨e, he⟩ : ∃ e, e = cbD c.C j := ⟨_, rfl⟩
        rw [← he] at c0 c1 hfit hno htk
        obtain ⟨k, oo⟩ := e
        simp only at c0 c1 hfit hno htk
        have r0 := (hb.cell (p := ⟨b, off + j * 2, none⟩) hlt).trans c0
        have r1 := (hb.cell (p := ⟨b, off + j * 2 + 1, none⟩) hlt).trans c1
        have HNO := Lib.hid hno
        have HTK := Lib.hid htk
        have HFit := Lib.hid hfit
        have HM := Lib.hid hm
        have HB := Lib.hid hb
        have HBW := Lib.hid hbW
        clear c0 c1 hfit hno htk hm hb hbW he
        go_upto_region 7 with (fail)
        obtain ⟨U, hU⟩ : ∃ U, U = wr.alloc (.cells #[.int .i64 k, .int .i64 oo] 94) := ⟨_, rfl⟩
        obtain ⟨g, hg⟩ : ∃ g, g = wr.heap.size := ⟨_, rfl⟩
        have hbx : Bxd U g [.int .i64 k, .int .i64 oo] := by rw [hU, hg]; exact Bxd.new _ _ _
        have hu : Below wr.heap.size wr U := by rw [hU]; exact (Below.refl _ _).alloc (Nat.le_refl _) _
        have HMU := Lib.hid (HM.out.below hu)
        have HBU := Lib.hid (HB.out.trans (hu.mono HB.out.size))
        have HBWU := Lib.hid (HBW.out.trans (hu.mono HBW.out.size))
        rw [← hU, ← hg]
        clear hU hg hu r0 r1
        have g0 := hbx.at 0 _ rfl
        have g1 := hbx.at 1 _ rfl
        clear hbx
        go_wp2_with (first | (at_mapUpdate; refine wpList_mp_put _ rfl _ _ _ 111 rfl Try.underlying111 gm j _ rfl HMU.out (by unfold maxLen; omega) oo k rfl rfl (wfI_of (by have := HFit.out; omega)) (wfI_of (by have := HFit.out; omega)) HNO.out ?_; intro w1 hm1 hg1) | go_in)
        have HM1 := Lib.hid hm1
        have HB1 := Lib.hid (HBU.out.grown hg1 HBU.out.size (fun q hq => by cases hq; have := HGM.out; have := HBWV.out.size; have := HS0.out; omega))
        have HBW1 := Lib.hid (HBWU.out.grown hg1 HBWU.out.size (fun q hq => by cases hq; exact HGM.out))
        clear hm1 hg1 g0 g1
        go_wp2
        go_roundw
        case rel => exact ⟨j + 1, by omega, by go_num, by rw [HTK.out]; exact HM1.out, HB1.out, HBW1.out⟩
        case measure => simp [intOf]; omega
      · obtain rfl : j = n1 := by omega
        have hm' : Mp wr gm j (outsOf c.C) := by rw [show c.C.take j = c.C from List.take_of_length_le (by rw [HN1.out]; omega)] at hm; exact hm
        have HM := Lib.hid hm'
        have HB := Lib.hid hb
        have HBW := Lib.hid hbW
        have HXW := Lib.hid (HX0.out.below hbW HS0.out)
        clear hm hm' hb hbW
        have x5 := HXW.out.at 5 _ rfl
        have x6 := HXW.out.at 6 _ rfl
        go_wp2
        clear x5 x6
        go_loopw [37, 9, 10, 7] (fun i _ _ s wx => ∃ q : Nat, q ≤ n3 ∧ i = .int .i64 q ∧ s = .int .i64 (hlN c.d c.A q) ∧ avN c.C c.d c.A q = true ∧ Mp wx gm j (delN (outsOf c.C) c.A q) ∧ Below w.heap.size w wx ∧ Below W.heap.size W wx) (fun i _ _ _ _ => n3 - (intOf i).toNat)
        case atStart => exact ⟨0, Nat.zero_le _, rfl, rfl, rfl, HM.out, HB.out, HBW.out⟩
        case round =>
          obtain ⟨q, hq, rfl, rfl, hav, hm, hb, hbW⟩ := hrel
          by_cases hqn : q < n3
          · have hql : q < c.A.length := by rw [← HN3.out]; exact hqn
            obtain ⟨b, off, rfl, hlt, c0, c1, c2⟩ := av_at H3.out hql
            have hwf := HWf.out q hql
            have hky := delN_ky c.C c.A q
            have him := avImp_eq (d := c.d) HC.out HWf.out hql
            have hdl : delN (outsOf c.C) c.A (q + 1) = (delN (outsOf c.C) c.A q).filter (fun p => !decide (p.1 = (avD c.A q).o)) := rfl
            have hsn : hlN c.d c.A (q + 1) = bits .or .i64 (hlN c.d c.A q) (avD c.A q).l := rfl
            have hbad : avOne c.C c.d c.A q = false → x = 0 ∧ ok = false := fun h0 => by
              have h1 := HSD.out
              rw [if_neg (by rw [avN_no h0 _ hql]; exact Bool.false_ne_true)] at h1
              simpa using h1
            have hnx : avOne c.C c.d c.A q = true → avN c.C c.d c.A (q + 1) = true := fun h0 => by rw [avN, hav, h0]; rfl
            obtain ⟨S, hS⟩ : ∃ S, S = hlN c.d c.A q := ⟨_, rfl⟩
            obtain ⟨e, he⟩ : ∃ e, e = avD c.A q := ⟨_, rfl⟩
            obtain ⟨L, hL⟩ : ∃ L, L = delN (outsOf c.C) c.A q := ⟨_, rfl⟩
            rw [← he] at c0 c1 c2 hwf hky him hdl hsn
            rw [← hS] at him hsn ⊢
            rw [← hL] at hky hdl hm
            rw [← hky] at him
            obtain ⟨eo, el, ep⟩ := e
            simp only at c0 c1 c2 hwf hky him hdl hsn
            obtain ⟨ky, hkv⟩ : ∃ ky, ky = (mpAt L eo).getD 0 := ⟨_, rfl⟩
            rw [← hkv] at him
            obtain ⟨v, hv⟩ : ∃ v, v = avOne c.C c.d c.A q := ⟨_, rfl⟩
            rw [← hv] at him hbad hnx
            have r0 := (hb.cell (p := ⟨b, off + q * 3, none⟩) hlt).trans c0
            have r1 := (hb.cell (p := ⟨b, off + q * 3 + 1, none⟩) hlt).trans c1
            have r2 := (hb.cell (p := ⟨b, off + q * 3 + 2, none⟩) hlt).trans c2
            have HIM := Lib.hid him
            have HBad := Lib.hid hbad
            have HNX := Lib.hid hnx
            have HDL := Lib.hid hdl
            have HSN := Lib.hid hsn
            have HWF := Lib.hid hwf
            have HKV := Lib.hid hkv
            have HM2 := Lib.hid hm
            have HB2 := Lib.hid hb
            have HBW2 := Lib.hid hbW
            clear c0 c1 c2 hwf hky him hdl hsn hbad hnx hS he hL hkv hv hm hb hbW hav
            go_upto_region 13 with (fail)
            obtain ⟨U, hU⟩ : ∃ U, U = wr.alloc (.cells #[.int .i64 eo, .int .i64 el, .bool ep] 97) := ⟨_, rfl⟩
            obtain ⟨g, hg⟩ : ∃ g, g = wr.heap.size := ⟨_, rfl⟩
            have hbx : Bxd U g [.int .i64 eo, .int .i64 el, .bool ep] := by rw [hU, hg]; exact Bxd.new _ _ _
            have hu : Below wr.heap.size wr U := by rw [hU]; exact (Below.refl _ _).alloc (Nat.le_refl _) _
            have hgm : gm < g := by rw [hg]; exact HM2.out.lt
            have hgU : g < U.heap.size := by rw [hU, hg]; simp
            have HMU := Lib.hid (HM2.out.below hu)
            have HBU := Lib.hid (HB2.out.trans (hu.mono HB2.out.size))
            have HBWU := Lib.hid (HBW2.out.trans (hu.mono HBW2.out.size))
            rw [← hU, ← hg]
            have HGB := Lib.hid hbx
            have HGG := Lib.hid hgm
            have HGU := Lib.hid hgU
            clear hU hg hu r0 r1 r2 hbx hgm hgU
            have g0 := HGB.out.at 0 _ rfl
            go_upto_region 14 with (first | (at_lookup; refine wpList_mp_look _ rfl _ _ 111 rfl Try.underlying111 gm j _ rfl HMU.out eo rfl (wfI_of HWF.out.1) ?_; rw [← HKV.out]) | (fail))
            have g1 := HGB.out.at 1 _ rfl
            have g2 := HGB.out.at 2 _ rfl
            obtain ⟨t1, ht1⟩ : ∃ t, bits .andNot .i64 el ky = t := ⟨_, rfl⟩
            obtain ⟨t2, ht2⟩ : ∃ t, bits .and .i64 el S = t := ⟨_, rfl⟩
            have HV := Lib.hid (show v = ((!decide (el = 0) && (t1 == 0)) && ((ep == (el == ky)) && (t2 == 0))) by rw [← HIM.out, avImp, ht1, ht2])
            go_cut [70] (fun s wx => s = .bool (!v) ∧ wx = U)
            case first =>
              by_cases h1 : el = 0
              · have b1 : (el == 0) = true := by simp [h1]
                have hv : v = false := by rw [HV.out]; simp [h1]
                go_wp2
                go_meet
                exact ⟨by rw [hv]; first | rfl | simp [*], rfl⟩
              · have b1 : (el == 0) = false := by simp [h1]
                by_cases h2 : t1 = 0
                · have b2 : (t1 == 0) = true := by simp [h2]
                  cases ep
                  · by_cases h3 : el = ky
                    · have b3 : (el == ky) = true := by simp [h3]
                      clear h3
                      have hv : v = false := by rw [HV.out]; rw [b3]; simp
                      go_wp2
                      go_meet
                      exact ⟨by rw [hv]; first | rfl | simp [*], rfl⟩
                    · have b3 : (el == ky) = false := by simp [h3]
                      clear h3
                      by_cases h4 : t2 = 0
                      · have b4 : (t2 == 0) = true := by simp [h4]
                        have hv : v = true := by rw [HV.out]; rw [b3, b4, b2, decide_eq_false h1]; rfl
                        go_wp2
                        go_meet
                        exact ⟨by rw [hv]; first | rfl | simp [*], rfl⟩
                      · have b4 : (t2 == 0) = false := by simp [h4]
                        have hv : v = false := by rw [HV.out]; rw [b4]; simp
                        go_wp2
                        go_meet
                        exact ⟨by rw [hv]; first | rfl | simp [*], rfl⟩
                  · by_cases h3 : el = ky
                    · have b3 : (el == ky) = true := by simp [h3]
                      clear h3
                      by_cases h4 : t2 = 0
                      · have b4 : (t2 == 0) = true := by simp [h4]
                        have hv : v = true := by rw [HV.out]; rw [b3, b4, b2, decide_eq_false h1]; rfl
                        go_wp2
                        go_meet
                        exact ⟨by rw [hv]; first | rfl | simp [*], rfl⟩
                      · have b4 : (t2 == 0) = false := by simp [h4]
                        have hv : v = false := by rw [HV.out]; rw [b4]; simp
                        go_wp2
                        go_meet
                        exact ⟨by rw [hv]; first | rfl | simp [*], rfl⟩
                    · have b3 : (el == ky) = false := by simp [h3]
                      clear h3
                      have hv : v = false := by rw [HV.out]; rw [b3]; simp
                      go_wp2
                      go_meet
                      exact ⟨by rw [hv]; first | rfl | simp [*], rfl⟩
                · have b2 : (t1 == 0) = false := by simp [h2]
                  have hv : v = false := by rw [HV.out]; rw [b2]; simp
                  go_wp2
                  go_meet
                  exact ⟨by rw [hv]; first | rfl | simp [*], rfl⟩
            case rest =>
              obtain ⟨rfl, rfl⟩ := hcut
              clear ht1 ht2 g2
              cases v
              · obtain ⟨rfl, rfl⟩ := HBad.out rfl
                go_wp2
                go_ret2
                exact ⟨rfl, HBU.out⟩
              · have HQ := Lib.hid (HNX.out rfl)
                go_wp2_with (first | (at_delete; refine wpList_mp_del _ rfl _ _ 111 rfl Try.underlying111 gm j _ rfl HMU.out eo rfl (wfI_of HWF.out.1) ?_; intro w1 hm1 hg1) | go_in)
                have HM3 := Lib.hid hm1
                have HB3 := Lib.hid (HBU.out.grown hg1 HBU.out.size (fun q hq => by cases hq; have := HGM.out; have := HBWV.out.size; have := HS0.out; omega))
                have HBW3 := Lib.hid (HBWU.out.grown hg1 HBWU.out.size (fun q hq => by cases hq; exact HGM.out))
                clear hm1 hg1 g0 g1
                go_wp2
                go_roundw
                case rel => exact ⟨q + 1, by omega, by go_num, by rw [HSN.out], HQ.out, by rw [HDL.out]; exact HM3.out, HB3.out, HBW3.out⟩
                case measure => simp [intOf]; omega
          · obtain rfl : q = n3 := by omega
            have hok : avN c.C c.d c.A c.A.length = true := by rw [← HN3.out]; exact hav
            have h1 := HSD.out
            rw [if_pos hok, ← HN3.out] at h1
            obtain ⟨hx, rfl⟩ : x = hlN c.d c.A q ∧ ok = true := by simpa using h1
            have HX := Lib.hid hx
            have HBE := Lib.hid hb
            clear hb hbW hm hav hok h1 hx
            go_wp2
            go_ret2
            exact ⟨by rw [HX.out]; rfl, HBE.out⟩

end Go.Proofs.Ytagmdkblcgnddaa
