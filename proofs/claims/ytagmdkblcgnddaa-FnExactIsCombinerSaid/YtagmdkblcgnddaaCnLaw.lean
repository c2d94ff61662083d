/- DERIVED. The exact law of IsCombiner: called with any argument, it returns true and changes nothing that was there. -/
import Derived.Test.YtagmdkblcgnddaaCnSpec2
import Derived.Test.YtagmdkblcgnddaaCnImpl2
namespace Go.Proofs.Ytagmdkblcgnddaa
open Go.RowKit

set_option maxHeartbeats 1000000 in
set_option maxRecDepth 100000 in
theorem lawIsCombiner_all (c : Cn) (u1 u2 u3 : Value) (w : World) (hn1 : c.C.length ≤ maxLen) (hn2 : c.Q.length ≤ maxLen) (hn3 : c.A.length ≤ maxLen) (hw : AvWf c.A) (h : RdCn w c u1 u2 u3) : Calls Try.prog 10 #[c.val u1 u2 u3] w fun e w' => e = .returned (.bool true) ∧ Below w.heap.size w w' := by
  obtain ⟨ad1, qd1, rfl⟩ := rdN_shape h.cs
  obtain ⟨ad2, qd2, rfl⟩ := rdN_shape h.qs
  obtain ⟨ad3, qd3, rfl⟩ := rdN_shape h.av
  have HR := Lib.hid h
  have HN1 := Lib.hid hn1
  have HN2 := Lib.hid hn2
  have HN3 := Lib.hid hn3
  have HWf := Lib.hid hw
  clear h hn1 hn2 hn3 hw
  obtain ⟨s, hs⟩ : ∃ s : Int, s = if totCn c ≤ 1048576 then 1048576 - (totCn c : Int) else -1 := ⟨_, rfl⟩
  have HSZ := Lib.hid hs
  by_cases hl : totCn c ≤ 1048576
  · have hs0 : ¬ s < 0 := by rw [hs, if_pos hl]; omega
    have HE := Lib.hid (CnSz.of hl)
    obtain ⟨q, hq⟩ : ∃ x, x = okCn c := ⟨_, rfl⟩
    have HRR := Lib.hid hq
    clear hq hs hl
    obtain ⟨w0, hw0⟩ : ∃ x, x = (w.alloc (.cells #[.slice ad1 c.C.length qd1, .int .i64 c.t, .slice ad2 c.Q.length qd2, .int .i64 c.n, .int .i64 c.k, .int .i64 c.d, .slice ad3 c.A.length qd3] 69)) := ⟨_, rfl⟩
    have HB0 := Lib.hid (show Below w.heap.size w w0 by rw [hw0]; exact (Below.refl _ _).alloc (Nat.le_refl _) _)
    have Kd_0 := Lib.hid (show w0.heap[w.heap.size]? = some (.cells #[.slice ad1 c.C.length qd1, .int .i64 c.t, .slice ad2 c.Q.length qd2, .int .i64 c.n, .int .i64 c.k, .int .i64 c.d, .slice ad3 c.A.length qd3] 69 (0, 0)) by rw [hw0]; exact heap_alloc_new w _)
    have SZ0 := Lib.hid (show w0.heap.size = w.heap.size + 1 by rw [hw0]; simp)
    have HW := Lib.hid hw0
    clear hw0
    go_enter Try.func10, Try.ntmps10
    have cd0 := (cells_of_heap Kd_0.out 0 (by simp)).1
    have cd1 := (cells_of_heap Kd_0.out 1 (by simp)).1
    have cd2 := (cells_of_heap Kd_0.out 2 (by simp)).1
    have cd3 := (cells_of_heap Kd_0.out 3 (by simp)).1
    have cd4 := (cells_of_heap Kd_0.out 4 (by simp)).1
    have cd5 := (cells_of_heap Kd_0.out 5 (by simp)).1
    have cd6 := (cells_of_heap Kd_0.out 6 (by simp)).1
    go_wp2_with fail
    rw [← HW.out]
    refine (szCombiner_any c _ _ _ s HSZ.out _ HN1.out HN2.out HN3.out (HR.out.below HB0.out)).mono ?_
    rintro e w1 ⟨rfl, hb⟩
    clear cd0 cd1 cd2 cd3 cd4 cd5 cd6
    have HB1 := Lib.hid (HB0.out.trans (hb.mono HB0.out.size))
    have HS1 := Lib.hid hb.size
    have Kd_1 := Lib.hid (blk_below Kd_0.out hb)
    clear Kd_0
    clear hb
    have cd0 := (cells_of_heap Kd_1.out 0 (by simp)).1
    have cd1 := (cells_of_heap Kd_1.out 1 (by simp)).1
    have cd2 := (cells_of_heap Kd_1.out 2 (by simp)).1
    have cd3 := (cells_of_heap Kd_1.out 3 (by simp)).1
    have cd4 := (cells_of_heap Kd_1.out 4 (by simp)).1
    have cd5 := (cells_of_heap Kd_1.out 5 (by simp)).1
    have cd6 := (cells_of_heap Kd_1.out 6 (by simp)).1
    go_wp2_with fail
    refine (toCombiner_any c _ _ _ _ HE.out (HR.out.below HB1.out)).mono ?_
    rintro e w2 ⟨at1, qt1, at2, qt2, at3, qt3, ft, rfl, ht, hb⟩
    clear cd0 cd1 cd2 cd3 cd4 cd5 cd6
    have HB2 := Lib.hid (HB1.out.trans (hb.mono HB1.out.size))
    have HS2 := Lib.hid hb.size
    have Kd_2 := Lib.hid (blk_below Kd_1.out hb)
    clear Kd_1
    have Rt := Lib.hid (ht.rng)
    have Ot_2 := Lib.hid ht
    clear hb ht
    go_wp2_with fail
    refine (specIsCombiner_q c _ _ _ q HRR.out _ HN1.out HN2.out HN3.out HWf.out Ot_2.out.rd).mono ?_
    rintro e w3 ⟨rfl, hb⟩
    have HB3 := Lib.hid (HB2.out.trans (hb.mono HB2.out.size))
    have HS3 := Lib.hid hb.size
    have Kd_3 := Lib.hid (blk_below Kd_2.out hb)
    have Ot_3 := Lib.hid (Ot_2.out.below hb)
    clear Kd_2 Ot_2
    clear hb
    have cd0 := (cells_of_heap Kd_3.out 0 (by simp)).1
    have cd1 := (cells_of_heap Kd_3.out 1 (by simp)).1
    have cd2 := (cells_of_heap Kd_3.out 2 (by simp)).1
    have cd3 := (cells_of_heap Kd_3.out 3 (by simp)).1
    have cd4 := (cells_of_heap Kd_3.out 4 (by simp)).1
    have cd5 := (cells_of_heap Kd_3.out 5 (by simp)).1
    have cd6 := (cells_of_heap Kd_3.out 6 (by simp)).1
    go_wp2_with fail
    refine (toCombiner_any c _ _ _ _ HE.out (HR.out.below HB3.out)).mono ?_
    rintro e w4 ⟨ax1, qx1, ax2, qx2, ax3, qx3, fx, rfl, hx, hb⟩
    clear cd0 cd1 cd2 cd3 cd4 cd5 cd6
    have HB4 := Lib.hid (HB3.out.trans (hb.mono HB3.out.size))
    have HS4 := Lib.hid hb.size
    have Kd_4 := Lib.hid (blk_below Kd_3.out hb)
    have Ot_4 := Lib.hid (Ot_3.out.below hb)
    clear Kd_3 Ot_3
    have Rx := Lib.hid (hx.rng)
    have Ox_4 := Lib.hid hx
    clear hb hx
    go_upto_region 7 with (fail)
    obtain ⟨w5, hw⟩ : ∃ x, x = w4.alloc (.cells #[.slice ax1 c.C.length qx1, .int .i64 c.t, .slice ax2 c.Q.length qx2, .int .i64 c.n, .int .i64 c.k, .int .i64 c.d, .slice ax3 c.A.length qx3] 28) := ⟨_, rfl⟩
    have hb : Below w4.heap.size w4 w5 := by rw [hw]; exact below_alloc1 _ _
    have hk : w5.heap[w4.heap.size]? = some (.cells #[.slice ax1 c.C.length qx1, .int .i64 c.t, .slice ax2 c.Q.length qx2, .int .i64 c.n, .int .i64 c.k, .int .i64 c.d, .slice ax3 c.A.length qx3] 28 (0, 0)) := by rw [hw]; exact heap_alloc_new _ _
    rw [← hw]
    have HB5 := Lib.hid (HB4.out.trans (hb.mono HB4.out.size))
    have HS5 := Lib.hid (show w4.heap.size < w5.heap.size from (Array.getElem?_eq_some_iff.mp hk).1)
    have Kd_5 := Lib.hid (blk_below Kd_4.out hb)
    have Ot_5 := Lib.hid (Ot_4.out.below hb)
    have Ox_5 := Lib.hid (Ox_4.out.below hb)
    clear Kd_4 Ot_4 Ox_4
    have Kx_5 := Lib.hid hk
    clear hb hk hw
    have cx0 := (cells_of_heap Kx_5.out 0 (by simp)).1
    have cx1 := (cells_of_heap Kx_5.out 1 (by simp)).1
    have cx2 := (cells_of_heap Kx_5.out 2 (by simp)).1
    have cx3 := (cells_of_heap Kx_5.out 3 (by simp)).1
    have cx4 := (cells_of_heap Kx_5.out 4 (by simp)).1
    have cx5 := (cells_of_heap Kx_5.out 5 (by simp)).1
    have cx6 := (cells_of_heap Kx_5.out 6 (by simp)).1
    go_wp2_with fail
    refine (implIsCombiner_q c _ _ _ q HRR.out _ HN1.out HN2.out HN3.out HWf.out Ox_5.out.capC.1 Ox_5.out.rd).mono ?_
    rintro e w6 ⟨rfl, hb⟩
    clear cx0 cx1 cx2 cx3 cx4 cx5 cx6
    have HB6 := Lib.hid (HB5.out.trans (hb.mono HB5.out.size))
    have HS6 := Lib.hid hb.size
    have Kd_6 := Lib.hid (blk_below Kd_5.out hb)
    have Kx_6 := Lib.hid (blk_below Kx_5.out hb)
    have Ot_6 := Lib.hid (Ot_5.out.below hb)
    have Ox_6 := Lib.hid (Ox_5.out.below hb)
    clear Kd_5 Kx_5 Ot_5 Ox_5
    clear hb
    go_upto_region 10 with (fail)
    go_cut [26] (fun sd wx => sd = .bool false ∧ Below w6.heap.size w6 wx)
    case first =>
      have cd0 := (cells_of_heap Kd_6.out 0 (by simp)).1
      have cd1 := (cells_of_heap Kd_6.out 1 (by simp)).1
      have cd2 := (cells_of_heap Kd_6.out 2 (by simp)).1
      have cd3 := (cells_of_heap Kd_6.out 3 (by simp)).1
      have cd4 := (cells_of_heap Kd_6.out 4 (by simp)).1
      have cd5 := (cells_of_heap Kd_6.out 5 (by simp)).1
      have cd6 := (cells_of_heap Kd_6.out 6 (by simp)).1
      have cx0 := (cells_of_heap Kx_6.out 0 (by simp)).1
      have cx1 := (cells_of_heap Kx_6.out 1 (by simp)).1
      have cx2 := (cells_of_heap Kx_6.out 2 (by simp)).1
      have cx3 := (cells_of_heap Kx_6.out 3 (by simp)).1
      have cx4 := (cells_of_heap Kx_6.out 4 (by simp)).1
      have cx5 := (cells_of_heap Kx_6.out 5 (by simp)).1
      have cx6 := (cells_of_heap Kx_6.out 6 (by simp)).1
      have ld : w.heap.size < w6.heap.size := (Array.getElem?_eq_some_iff.mp Kd_6.out).1
      have lx : w4.heap.size < w6.heap.size := (Array.getElem?_eq_some_iff.mp Kx_6.out).1
      go_region_held3 (fun w' => w'.cell? ⟨w.heap.size, 0, none⟩ = some (.slice ad1 c.C.length qd1) ∧ w'.cell? ⟨w.heap.size, 1, none⟩ = some (.int .i64 c.t) ∧ w'.cell? ⟨w.heap.size, 2, none⟩ = some (.slice ad2 c.Q.length qd2) ∧ w'.cell? ⟨w.heap.size, 3, none⟩ = some (.int .i64 c.n) ∧ w'.cell? ⟨w.heap.size, 4, none⟩ = some (.int .i64 c.k) ∧ w'.cell? ⟨w.heap.size, 5, none⟩ = some (.int .i64 c.d) ∧ w'.cell? ⟨w.heap.size, 6, none⟩ = some (.slice ad3 c.A.length qd3) ∧ w'.cell? ⟨w4.heap.size, 0, none⟩ = some (.slice ax1 c.C.length qx1) ∧ w'.cell? ⟨w4.heap.size, 1, none⟩ = some (.int .i64 c.t) ∧ w'.cell? ⟨w4.heap.size, 2, none⟩ = some (.slice ax2 c.Q.length qx2) ∧ w'.cell? ⟨w4.heap.size, 3, none⟩ = some (.int .i64 c.n) ∧ w'.cell? ⟨w4.heap.size, 4, none⟩ = some (.int .i64 c.k) ∧ w'.cell? ⟨w4.heap.size, 5, none⟩ = some (.int .i64 c.d) ∧ w'.cell? ⟨w4.heap.size, 6, none⟩ = some (.slice ax3 c.A.length qx3)) (first | go_keep)
        (first | (go_at_call 46; refine (toCombiner_any c _ _ _ _ HE.out (HR.out.below (by first | exact HB6.out | exact HB6.out.drew | exact HB6.out.drew.drew))).mono ?_; rintro e v1 ⟨ay1, qy1, ay2, qy2, ay3, qy3, fy, rfl, hy, hb1⟩; have hbr : Below w6.heap.size w6 v1 := (by first | exact hb1 | exact ((Below.refl _ _).drew).trans hb1 | exact ((Below.refl _ _).drew.drew).trans hb1); have kcd0 := (hbr.cell (p := ⟨w.heap.size, 0, none⟩) ld).trans cd0; have kcd1 := (hbr.cell (p := ⟨w.heap.size, 1, none⟩) ld).trans cd1; have kcd2 := (hbr.cell (p := ⟨w.heap.size, 2, none⟩) ld).trans cd2; have kcd3 := (hbr.cell (p := ⟨w.heap.size, 3, none⟩) ld).trans cd3; have kcd4 := (hbr.cell (p := ⟨w.heap.size, 4, none⟩) ld).trans cd4; have kcd5 := (hbr.cell (p := ⟨w.heap.size, 5, none⟩) ld).trans cd5; have kcd6 := (hbr.cell (p := ⟨w.heap.size, 6, none⟩) ld).trans cd6; have kcx0 := (hbr.cell (p := ⟨w4.heap.size, 0, none⟩) lx).trans cx0; have kcx1 := (hbr.cell (p := ⟨w4.heap.size, 1, none⟩) lx).trans cx1; have kcx2 := (hbr.cell (p := ⟨w4.heap.size, 2, none⟩) lx).trans cx2; have kcx3 := (hbr.cell (p := ⟨w4.heap.size, 3, none⟩) lx).trans cx3; have kcx4 := (hbr.cell (p := ⟨w4.heap.size, 4, none⟩) lx).trans cx4; have kcx5 := (hbr.cell (p := ⟨w4.heap.size, 5, none⟩) lx).trans cx5; have kcx6 := (hbr.cell (p := ⟨w4.heap.size, 6, none⟩) lx).trans cx6; have HBR := Lib.hid hbr; have HY := Lib.hid hy; clear hbr hb1 hy) | (go_at_call 47; refine (eqCombiner_same c _ _ _ _ _ _ _ HE.out (Ox_6.out.rd.below (by first | exact HBR.out | exact HBR.out.drew | exact HBR.out.drew.drew)) (HY.out.rd.below (by first | exact Below.refl _ _ | exact (Below.refl _ _).drew | exact (Below.refl _ _).drew.drew))).mono ?_; rintro e v2 ⟨rfl, hb2⟩; have hbr : Below w6.heap.size w6 v2 := (by first | exact HBR.out.trans (hb2.mono HBR.out.size) | exact HBR.out.trans (((Below.refl _ _).drew.trans hb2).mono HBR.out.size) | exact HBR.out.trans (((Below.refl _ _).drew.drew.trans hb2).mono HBR.out.size)); have kcd0 := (hbr.cell (p := ⟨w.heap.size, 0, none⟩) ld).trans cd0; have kcd1 := (hbr.cell (p := ⟨w.heap.size, 1, none⟩) ld).trans cd1; have kcd2 := (hbr.cell (p := ⟨w.heap.size, 2, none⟩) ld).trans cd2; have kcd3 := (hbr.cell (p := ⟨w.heap.size, 3, none⟩) ld).trans cd3; have kcd4 := (hbr.cell (p := ⟨w.heap.size, 4, none⟩) ld).trans cd4; have kcd5 := (hbr.cell (p := ⟨w.heap.size, 5, none⟩) ld).trans cd5; have kcd6 := (hbr.cell (p := ⟨w.heap.size, 6, none⟩) ld).trans cd6; have kcx0 := (hbr.cell (p := ⟨w4.heap.size, 0, none⟩) lx).trans cx0; have kcx1 := (hbr.cell (p := ⟨w4.heap.size, 1, none⟩) lx).trans cx1; have kcx2 := (hbr.cell (p := ⟨w4.heap.size, 2, none⟩) lx).trans cx2; have kcx3 := (hbr.cell (p := ⟨w4.heap.size, 3, none⟩) lx).trans cx3; have kcx4 := (hbr.cell (p := ⟨w4.heap.size, 4, none⟩) lx).trans cx4; have kcx5 := (hbr.cell (p := ⟨w4.heap.size, 5, none⟩) lx).trans cx5; have kcx6 := (hbr.cell (p := ⟨w4.heap.size, 6, none⟩) lx).trans cx6; have HB2 := Lib.hid hbr; clear hbr hb2))
      all_goals
        go_wp2
        go_meet
        exact ⟨rfl, by first | exact HB2.out | exact HB2.out.drew⟩
    case rest =>
      obtain ⟨rfl, hb⟩ := hcut
      obtain ⟨w7, hw⟩ : ∃ x, x = wc := ⟨_, rfl⟩
      rw [← hw] at hb ⊢
      clear hw
      have HB7 := Lib.hid (HB6.out.trans (hb.mono HB6.out.size))
      have HS7 := Lib.hid hb.size
      have Kd_7 := Lib.hid (blk_below Kd_6.out hb)
      have Kx_7 := Lib.hid (blk_below Kx_6.out hb)
      have Ot_7 := Lib.hid (Ot_6.out.below hb)
      have Ox_7 := Lib.hid (Ox_6.out.below hb)
      clear Kd_6 Kx_6 Ot_6 Ox_6
      clear hb
      go_wp2
      go_ret
      exact ⟨rfl, HB7.out⟩
  · have hs1 : s = -1 := by rw [hs, if_neg hl]
    have hs0 : s < 0 := by omega
    clear hs hl hs1
    obtain ⟨w0, hw0⟩ : ∃ x, x = (w.alloc (.cells #[.slice ad1 c.C.length qd1, .int .i64 c.t, .slice ad2 c.Q.length qd2, .int .i64 c.n, .int .i64 c.k, .int .i64 c.d, .slice ad3 c.A.length qd3] 69)) := ⟨_, rfl⟩
    have HB0 := Lib.hid (show Below w.heap.size w w0 by rw [hw0]; exact (Below.refl _ _).alloc (Nat.le_refl _) _)
    have Kd_0 := Lib.hid (show w0.heap[w.heap.size]? = some (.cells #[.slice ad1 c.C.length qd1, .int .i64 c.t, .slice ad2 c.Q.length qd2, .int .i64 c.n, .int .i64 c.k, .int .i64 c.d, .slice ad3 c.A.length qd3] 69 (0, 0)) by rw [hw0]; exact heap_alloc_new w _)
    have SZ0 := Lib.hid (show w0.heap.size = w.heap.size + 1 by rw [hw0]; simp)
    have HW := Lib.hid hw0
    clear hw0
    go_enter Try.func10, Try.ntmps10
    have cd0 := (cells_of_heap Kd_0.out 0 (by simp)).1
    have cd1 := (cells_of_heap Kd_0.out 1 (by simp)).1
    have cd2 := (cells_of_heap Kd_0.out 2 (by simp)).1
    have cd3 := (cells_of_heap Kd_0.out 3 (by simp)).1
    have cd4 := (cells_of_heap Kd_0.out 4 (by simp)).1
    have cd5 := (cells_of_heap Kd_0.out 5 (by simp)).1
    have cd6 := (cells_of_heap Kd_0.out 6 (by simp)).1
    go_wp2_with fail
    rw [← HW.out]
    refine (szCombiner_any c _ _ _ s HSZ.out _ HN1.out HN2.out HN3.out (HR.out.below HB0.out)).mono ?_
    rintro e w1 ⟨rfl, hb⟩
    clear cd0 cd1 cd2 cd3 cd4 cd5 cd6
    have HB1 := Lib.hid (HB0.out.trans (hb.mono HB0.out.size))
    have HS1 := Lib.hid hb.size
    have Kd_1 := Lib.hid (blk_below Kd_0.out hb)
    clear Kd_0
    clear hb
    go_wp2
    go_ret
    exact ⟨rfl, HB1.out⟩

end Go.Proofs.Ytagmdkblcgnddaa
