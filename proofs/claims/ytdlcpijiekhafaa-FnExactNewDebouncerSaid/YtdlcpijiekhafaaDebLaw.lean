/- DERIVED. The exact laws of chapter 3 on debouncers: each, called with any debouncer and any numbers, returns true and changes nothing that was there. -/
import Derived.Test.YtdlcpijiekhafaaSeqLaw
import Derived.Test.YtdlcpijiekhafaaDebOpen
import Derived.Deep.RegionHeld3
namespace Go.Proofs.Ytdlcpijiekhafaa
open Go.RowKit

set_option maxHeartbeats 1000000 in
set_option maxRecDepth 100000 in
theorem lawIsDebouncer_walk (k t n s l : Int) (a : Option Addr) (m cap : Nat) (zs : List Int) (w : World) (hm : zs.length = m) (hml : m ≤ maxLen) (h : Rd w (.slice a m cap) (zs.map (.int .i64))) : Calls Try.prog 6 #[dbv k t n s l (.slice a m cap)] w fun e w' => e = .returned (.bool true) ∧ Below w.heap.size w w' := by
  subst hm
  have HR := Lib.hid h
  clear h
  by_cases hl : zs.length ≤ 1048576
  · have hsz : (if (1048576 : Int) < (zs.length : Int) then -1 else (1048576 : Int) - (zs.length : Int)) = 1048576 - (zs.length : Int) := if_neg (by omega)
    have hsz0 : ¬ (1048576 : Int) - (zs.length : Int) < 0 := by omega
    have HSZ := Lib.hid hsz
    clear hsz
    obtain ⟨r, hr⟩ : ∃ x, x = okDeb k t n s l zs := ⟨_, rfl⟩
    have HRR := Lib.hid hr
    clear hr
    obtain ⟨w0, hw0⟩ : ∃ x, x = (w.alloc (.cells #[.int .i64 k, .int .i64 t, .int .i64 n, .int .i64 s, .int .i64 l, .slice a zs.length cap] 39)) := ⟨_, rfl⟩
    have HB0 := Lib.hid (show Below w.heap.size w w0 by rw [hw0]; exact (Below.refl _ _).alloc (Nat.le_refl _) _)
    have Kd_0 := Lib.hid (show w0.heap[w.heap.size]? = some (.cells #[.int .i64 k, .int .i64 t, .int .i64 n, .int .i64 s, .int .i64 l, .slice a zs.length cap] 39 (0, 0)) by rw [hw0]; exact heap_alloc_new w _)
    have SZ0 := Lib.hid (show w0.heap.size = w.heap.size + 1 by rw [hw0]; simp)
    have HW := Lib.hid hw0
    clear hw0
    go_enter Try.func6, Try.ntmps6
    have cd0 := (cells_of_heap Kd_0.out 0 (by simp)).1
    have cd1 := (cells_of_heap Kd_0.out 1 (by simp)).1
    have cd2 := (cells_of_heap Kd_0.out 2 (by simp)).1
    have cd3 := (cells_of_heap Kd_0.out 3 (by simp)).1
    have cd4 := (cells_of_heap Kd_0.out 4 (by simp)).1
    have cd5 := (cells_of_heap Kd_0.out 5 (by simp)).1
    go_wp2_with fail
    rw [← HW.out]
    refine (szDebouncer_any k t n s l a zs.length cap 1048576 _ (by omega) (by omega) hml).mono ?_
    rw [HSZ.out]
    rintro e w1 ⟨rfl, hb⟩
    clear cd0 cd1 cd2 cd3 cd4 cd5
    have HB1 := Lib.hid (HB0.out.trans (hb.mono HB0.out.size))
    have HS1 := Lib.hid hb.size
    have Kd_1 := Lib.hid (blk_below Kd_0.out hb)
    clear Kd_0
    clear hb
    have cd0 := (cells_of_heap Kd_1.out 0 (by simp)).1
    have cd1 := (cells_of_heap Kd_1.out 1 (by simp)).1
    have cd2 := (cells_of_heap Kd_1.out 2 (by simp)).1
    have cd3 := (cells_of_heap Kd_1.out 3 (by simp)).1
    have cd4 := (cells_of_heap Kd_1.out 4 (by simp)).1
    have cd5 := (cells_of_heap Kd_1.out 5 (by simp)).1
    go_wp2_with fail
    refine (toDebouncer_law k t n s l _ zs _ hl (HR.out.below HB1.out)).mono ?_
    rintro e w2 ⟨a1, c1, f1, rfl, h1, hb⟩
    clear cd0 cd1 cd2 cd3 cd4 cd5
    have HB2 := Lib.hid (HB1.out.trans (hb.mono HB1.out.size))
    have HS2 := Lib.hid hb.size
    have Kd_2 := Lib.hid (blk_below Kd_1.out hb)
    clear Kd_1
    have Rt := Lib.hid (h1.range _ _ _ _)
    have Ot_2 := Lib.hid h1
    clear hb h1
    go_wp2_with fail
    refine (specIsDebouncer_any k t n s l _ zs _ (by unfold maxLen; omega) (owC_rd Ot_2.out)).mono ?_
    rw [← HRR.out]
    rintro e w3 ⟨rfl, hb⟩
    have HB3 := Lib.hid (HB2.out.trans (hb.mono HB2.out.size))
    have HS3 := Lib.hid hb.size
    have Kd_3 := Lib.hid (blk_below Kd_2.out hb)
    have Ot_3 := Lib.hid (Ot_2.out.below hb)
    clear Kd_2 Ot_2
    clear hb
    have cd0 := (cells_of_heap Kd_3.out 0 (by simp)).1
    have cd1 := (cells_of_heap Kd_3.out 1 (by simp)).1
    have cd2 := (cells_of_heap Kd_3.out 2 (by simp)).1
    have cd3 := (cells_of_heap Kd_3.out 3 (by simp)).1
    have cd4 := (cells_of_heap Kd_3.out 4 (by simp)).1
    have cd5 := (cells_of_heap Kd_3.out 5 (by simp)).1
    go_wp2_with fail
    refine (toDebouncer_law k t n s l _ zs _ hl (HR.out.below HB3.out)).mono ?_
    rintro e w4 ⟨a2, c2, f2, rfl, h2, hb⟩
    clear cd0 cd1 cd2 cd3 cd4 cd5
    have HB4 := Lib.hid (HB3.out.trans (hb.mono HB3.out.size))
    have HS4 := Lib.hid hb.size
    have Kd_4 := Lib.hid (blk_below Kd_3.out hb)
    have Ot_4 := Lib.hid (Ot_3.out.below hb)
    clear Kd_3 Ot_3
    have Rx := Lib.hid (h2.range _ _ _ _)
    have Ox_4 := Lib.hid h2
    clear hb h2
    go_upto_region 7 with (fail)
    obtain ⟨w5, hw⟩ : ∃ x, x = w4.alloc (.cells #[.int .i64 k, .int .i64 t, .int .i64 n, .int .i64 s, .int .i64 l, .slice a2 zs.length c2] 26) := ⟨_, rfl⟩
    have hb : Below w4.heap.size w4 w5 := by rw [hw]; exact below_alloc1 _ _
    have hk : w5.heap[w4.heap.size]? = some (.cells #[.int .i64 k, .int .i64 t, .int .i64 n, .int .i64 s, .int .i64 l, .slice a2 zs.length c2] 26 (0, 0)) := by rw [hw]; exact heap_alloc_new _ _
    rw [← hw]
    have HB5 := Lib.hid (HB4.out.trans (hb.mono HB4.out.size))
    have HS5 := Lib.hid (show w4.heap.size < w5.heap.size from (Array.getElem?_eq_some_iff.mp hk).1)
    have Kd_5 := Lib.hid (blk_below Kd_4.out hb)
    have Ot_5 := Lib.hid (Ot_4.out.below hb)
    have Ox_5 := Lib.hid (Ox_4.out.below hb)
    clear Kd_4 Ot_4 Ox_4
    have Kx_5 := Lib.hid hk
    clear hb hk hw
    have cx0 := (cells_of_heap Kx_5.out 0 (by simp)).1
    have cx1 := (cells_of_heap Kx_5.out 1 (by simp)).1
    have cx2 := (cells_of_heap Kx_5.out 2 (by simp)).1
    have cx3 := (cells_of_heap Kx_5.out 3 (by simp)).1
    have cx4 := (cells_of_heap Kx_5.out 4 (by simp)).1
    have cx5 := (cells_of_heap Kx_5.out 5 (by simp)).1
    go_wp2_with fail
    refine (implIsDebouncer_any k t n s l _ zs _ (by unfold maxLen; omega) (owC_rd Ox_5.out)).mono ?_
    rw [← HRR.out]
    rintro e w6 ⟨rfl, hb⟩
    clear cx0 cx1 cx2 cx3 cx4 cx5
    have HB6 := Lib.hid (HB5.out.trans (hb.mono HB5.out.size))
    have HS6 := Lib.hid hb.size
    have Kd_6 := Lib.hid (blk_below Kd_5.out hb)
    have Kx_6 := Lib.hid (blk_below Kx_5.out hb)
    have Ot_6 := Lib.hid (Ot_5.out.below hb)
    have Ox_6 := Lib.hid (Ox_5.out.below hb)
    clear Kd_5 Kx_5 Ot_5 Ox_5
    clear hb
    go_upto_region 10 with (fail)
    go_cut [26] (fun sd wx => sd = .bool false ∧ Below w6.heap.size w6 wx)
    case first =>
      have cd0 := (cells_of_heap Kd_6.out 0 (by simp)).1
      have cd1 := (cells_of_heap Kd_6.out 1 (by simp)).1
      have cd2 := (cells_of_heap Kd_6.out 2 (by simp)).1
      have cd3 := (cells_of_heap Kd_6.out 3 (by simp)).1
      have cd4 := (cells_of_heap Kd_6.out 4 (by simp)).1
      have cd5 := (cells_of_heap Kd_6.out 5 (by simp)).1
      have cx0 := (cells_of_heap Kx_6.out 0 (by simp)).1
      have cx1 := (cells_of_heap Kx_6.out 1 (by simp)).1
      have cx2 := (cells_of_heap Kx_6.out 2 (by simp)).1
      have cx3 := (cells_of_heap Kx_6.out 3 (by simp)).1
      have cx4 := (cells_of_heap Kx_6.out 4 (by simp)).1
      have cx5 := (cells_of_heap Kx_6.out 5 (by simp)).1
      have ld : w.heap.size < w6.heap.size := (Array.getElem?_eq_some_iff.mp Kd_6.out).1
      have lx : w4.heap.size < w6.heap.size := (Array.getElem?_eq_some_iff.mp Kx_6.out).1
      go_region_held3 (fun w' => w'.cell? ⟨w.heap.size, 0, none⟩ = some (.int .i64 k) ∧ w'.cell? ⟨w.heap.size, 1, none⟩ = some (.int .i64 t) ∧ w'.cell? ⟨w.heap.size, 2, none⟩ = some (.int .i64 n) ∧ w'.cell? ⟨w.heap.size, 3, none⟩ = some (.int .i64 s) ∧ w'.cell? ⟨w.heap.size, 4, none⟩ = some (.int .i64 l) ∧ w'.cell? ⟨w.heap.size, 5, none⟩ = some (.slice a zs.length cap) ∧ w'.cell? ⟨w4.heap.size, 0, none⟩ = some (.int .i64 k) ∧ w'.cell? ⟨w4.heap.size, 1, none⟩ = some (.int .i64 t) ∧ w'.cell? ⟨w4.heap.size, 2, none⟩ = some (.int .i64 n) ∧ w'.cell? ⟨w4.heap.size, 3, none⟩ = some (.int .i64 s) ∧ w'.cell? ⟨w4.heap.size, 4, none⟩ = some (.int .i64 l) ∧ w'.cell? ⟨w4.heap.size, 5, none⟩ = some (.slice a2 zs.length c2)) (first | go_keep)
        (first | (go_at_call 24; refine (toDebouncer_law k t n s l _ zs _ hl (HR.out.below (by first | exact HB6.out | exact HB6.out.drew | exact HB6.out.drew.drew))).mono ?_; rintro e v1 ⟨a3, c3, f3, rfl, hy, hb1⟩; have hbr : Below w6.heap.size w6 v1 := (by first | exact hb1 | exact ((Below.refl _ _).drew).trans hb1 | exact ((Below.refl _ _).drew.drew).trans hb1); have kcd0 := (hbr.cell (p := ⟨w.heap.size, 0, none⟩) ld).trans cd0; have kcd1 := (hbr.cell (p := ⟨w.heap.size, 1, none⟩) ld).trans cd1; have kcd2 := (hbr.cell (p := ⟨w.heap.size, 2, none⟩) ld).trans cd2; have kcd3 := (hbr.cell (p := ⟨w.heap.size, 3, none⟩) ld).trans cd3; have kcd4 := (hbr.cell (p := ⟨w.heap.size, 4, none⟩) ld).trans cd4; have kcd5 := (hbr.cell (p := ⟨w.heap.size, 5, none⟩) ld).trans cd5; have kcx0 := (hbr.cell (p := ⟨w4.heap.size, 0, none⟩) lx).trans cx0; have kcx1 := (hbr.cell (p := ⟨w4.heap.size, 1, none⟩) lx).trans cx1; have kcx2 := (hbr.cell (p := ⟨w4.heap.size, 2, none⟩) lx).trans cx2; have kcx3 := (hbr.cell (p := ⟨w4.heap.size, 3, none⟩) lx).trans cx3; have kcx4 := (hbr.cell (p := ⟨w4.heap.size, 4, none⟩) lx).trans cx4; have kcx5 := (hbr.cell (p := ⟨w4.heap.size, 5, none⟩) lx).trans cx5; have HBR := Lib.hid hbr; have HY := Lib.hid hy; clear hbr hb1 hy) | (go_at_call 25; refine (eqDebouncer_same k t n s l _ _ zs _ (by omega) ((owC_rd Ox_6.out).below (by first | exact HBR.out | exact HBR.out.drew | exact HBR.out.drew.drew)) ((owC_rd HY.out).below (by first | exact Below.refl _ _ | exact (Below.refl _ _).drew | exact (Below.refl _ _).drew.drew))).mono ?_; rintro e v2 ⟨rfl, hb2⟩; have hbr : Below w6.heap.size w6 v2 := (by first | exact HBR.out.trans (hb2.mono HBR.out.size) | exact HBR.out.trans (((Below.refl _ _).drew.trans hb2).mono HBR.out.size) | exact HBR.out.trans (((Below.refl _ _).drew.drew.trans hb2).mono HBR.out.size)); have kcd0 := (hbr.cell (p := ⟨w.heap.size, 0, none⟩) ld).trans cd0; have kcd1 := (hbr.cell (p := ⟨w.heap.size, 1, none⟩) ld).trans cd1; have kcd2 := (hbr.cell (p := ⟨w.heap.size, 2, none⟩) ld).trans cd2; have kcd3 := (hbr.cell (p := ⟨w.heap.size, 3, none⟩) ld).trans cd3; have kcd4 := (hbr.cell (p := ⟨w.heap.size, 4, none⟩) ld).trans cd4; have kcd5 := (hbr.cell (p := ⟨w.heap.size, 5, none⟩) ld).trans cd5; have kcx0 := (hbr.cell (p := ⟨w4.heap.size, 0, none⟩) lx).trans cx0; have kcx1 := (hbr.cell (p := ⟨w4.heap.size, 1, none⟩) lx).trans cx1; have kcx2 := (hbr.cell (p := ⟨w4.heap.size, 2, none⟩) lx).trans cx2; have kcx3 := (hbr.cell (p := ⟨w4.heap.size, 3, none⟩) lx).trans cx3; have kcx4 := (hbr.cell (p := ⟨w4.heap.size, 4, none⟩) lx).trans cx4; have kcx5 := (hbr.cell (p := ⟨w4.heap.size, 5, none⟩) lx).trans cx5; have HB2 := Lib.hid hbr; clear hbr hb2))
      all_goals
        go_wp2
        go_meet
        exact ⟨rfl, by first | exact HB2.out | exact HB2.out.drew⟩
    case rest =>
      obtain ⟨rfl, hb⟩ := hcut
      obtain ⟨w7, hw⟩ : ∃ x, x = wc := ⟨_, rfl⟩
      rw [← hw] at hb ⊢
      clear hw
      have HB7 := Lib.hid (HB6.out.trans (hb.mono HB6.out.size))
      have HS7 := Lib.hid hb.size
      have Kd_7 := Lib.hid (blk_below Kd_6.out hb)
      have Kx_7 := Lib.hid (blk_below Kx_6.out hb)
      have Ot_7 := Lib.hid (Ot_6.out.below hb)
      have Ox_7 := Lib.hid (Ox_6.out.below hb)
      clear Kd_6 Kx_6 Ot_6 Ox_6
      clear hb
      go_wp2
      go_ret
      exact ⟨rfl, HB7.out⟩
  · have hsz : (if (1048576 : Int) < (zs.length : Int) then -1 else (1048576 : Int) - (zs.length : Int)) = -1 := if_pos (by omega)
    have HSZ := Lib.hid hsz
    clear hsz hl
    obtain ⟨w0, hw0⟩ : ∃ x, x = (w.alloc (.cells #[.int .i64 k, .int .i64 t, .int .i64 n, .int .i64 s, .int .i64 l, .slice a zs.length cap] 39)) := ⟨_, rfl⟩
    have HB0 := Lib.hid (show Below w.heap.size w w0 by rw [hw0]; exact (Below.refl _ _).alloc (Nat.le_refl _) _)
    have Kd_0 := Lib.hid (show w0.heap[w.heap.size]? = some (.cells #[.int .i64 k, .int .i64 t, .int .i64 n, .int .i64 s, .int .i64 l, .slice a zs.length cap] 39 (0, 0)) by rw [hw0]; exact heap_alloc_new w _)
    have SZ0 := Lib.hid (show w0.heap.size = w.heap.size + 1 by rw [hw0]; simp)
    have HW := Lib.hid hw0
    clear hw0
    go_enter Try.func6, Try.ntmps6
    have cd0 := (cells_of_heap Kd_0.out 0 (by simp)).1
    have cd1 := (cells_of_heap Kd_0.out 1 (by simp)).1
    have cd2 := (cells_of_heap Kd_0.out 2 (by simp)).1
    have cd3 := (cells_of_heap Kd_0.out 3 (by simp)).1
    have cd4 := (cells_of_heap Kd_0.out 4 (by simp)).1
    have cd5 := (cells_of_heap Kd_0.out 5 (by simp)).1
    go_wp2_with fail
    rw [← HW.out]
    refine (szDebouncer_any k t n s l a zs.length cap 1048576 _ (by omega) (by omega) hml).mono ?_
    rw [HSZ.out]
    rintro e w1 ⟨rfl, hb⟩
    clear cd0 cd1 cd2 cd3 cd4 cd5
    have HB1 := Lib.hid (HB0.out.trans (hb.mono HB0.out.size))
    have HS1 := Lib.hid hb.size
    have Kd_1 := Lib.hid (blk_below Kd_0.out hb)
    clear Kd_0
    clear hb
    go_wp2
    go_ret
    exact ⟨rfl, HB1.out⟩

set_option maxHeartbeats 1000000 in
set_option maxRecDepth 100000 in
theorem lawNewDebouncer_walk (k t n : Int) (w : World)  : Calls Try.prog 7 #[.int .i64 k, .int .i64 t, .int .i64 n] w fun e w' => e = .returned (.bool true) ∧ Below w.heap.size w w' := by
  obtain ⟨⟨⟨rk, rt, rn, rs, rl, rz⟩, b⟩, hR⟩ : ∃ x, newR k t n = x := ⟨_, rfl⟩
  have hrz := newR_len k t n
  rw [hR] at hrz
  replace hrz : rz.length ≤ 1048576 := hrz
  have HRR := Lib.hid hR
  clear hR
  have HB0 := Lib.hid (Below.refl w.heap.size w)
  go_enter Try.func7, Try.ntmps7
  go_wp2_with fail
  refine (specNew_law k t n _ b _ HRR.out).mono ?_
  rintro e w1 ⟨a1, c1, f1, rfl, h1, hb⟩
  have HB1 := Lib.hid (HB0.out.trans (hb.mono HB0.out.size))
  have HS1 := Lib.hid hb.size
  have Rw := Lib.hid (h1.range _ _ _ _)
  have Ow_1 := Lib.hid h1
  clear hb h1
  go_upto_region 2 with (fail)
  obtain ⟨w2, hw⟩ : ∃ x, x = w1.alloc (.cells #[.int .i64 rk, .int .i64 rt, .int .i64 rn, .int .i64 rs, .int .i64 rl, .slice a1 rz.length c1] 26) := ⟨_, rfl⟩
  have hb : Below w1.heap.size w1 w2 := by rw [hw]; exact below_alloc1 _ _
  have hk : w2.heap[w1.heap.size]? = some (.cells #[.int .i64 rk, .int .i64 rt, .int .i64 rn, .int .i64 rs, .int .i64 rl, .slice a1 rz.length c1] 26 (0, 0)) := by rw [hw]; exact heap_alloc_new _ _
  rw [← hw]
  have HB2 := Lib.hid (HB1.out.trans (hb.mono HB1.out.size))
  have HS2 := Lib.hid (show w1.heap.size < w2.heap.size from (Array.getElem?_eq_some_iff.mp hk).1)
  have Ow_2 := Lib.hid (Ow_1.out.below hb)
  clear Ow_1
  have Kw_2 := Lib.hid hk
  clear hb hk hw
  go_wp2_with fail
  refine (implNew_law k t n _ b _ HRR.out).mono ?_
  rintro e w3 ⟨a2, c2, f2, rfl, h2, hb⟩
  have HB3 := Lib.hid (HB2.out.trans (hb.mono HB2.out.size))
  have HS3 := Lib.hid hb.size
  have Kw_3 := Lib.hid (blk_below Kw_2.out hb)
  have Ow_3 := Lib.hid (Ow_2.out.below hb)
  clear Kw_2 Ow_2
  have Rg := Lib.hid (h2.range _ _ _ _)
  have Og_3 := Lib.hid h2
  clear hb h2
  go_upto_region 3 with (fail)
  obtain ⟨w4, hw⟩ : ∃ x, x = w3.alloc (.cells #[.int .i64 rk, .int .i64 rt, .int .i64 rn, .int .i64 rs, .int .i64 rl, .slice a2 rz.length c2] 26) := ⟨_, rfl⟩
  have hb : Below w3.heap.size w3 w4 := by rw [hw]; exact below_alloc1 _ _
  have hk : w4.heap[w3.heap.size]? = some (.cells #[.int .i64 rk, .int .i64 rt, .int .i64 rn, .int .i64 rs, .int .i64 rl, .slice a2 rz.length c2] 26 (0, 0)) := by rw [hw]; exact heap_alloc_new _ _
  rw [← hw]
  have HB4 := Lib.hid (HB3.out.trans (hb.mono HB3.out.size))
  have HS4 := Lib.hid (show w3.heap.size < w4.heap.size from (Array.getElem?_eq_some_iff.mp hk).1)
  have Kw_4 := Lib.hid (blk_below Kw_3.out hb)
  have Ow_4 := Lib.hid (Ow_3.out.below hb)
  have Og_4 := Lib.hid (Og_3.out.below hb)
  clear Kw_3 Ow_3 Og_3
  have Kg_4 := Lib.hid hk
  clear hb hk hw
  have cg0 := (cells_of_heap Kg_4.out 0 (by simp)).1
  have cg1 := (cells_of_heap Kg_4.out 1 (by simp)).1
  have cg2 := (cells_of_heap Kg_4.out 2 (by simp)).1
  have cg3 := (cells_of_heap Kg_4.out 3 (by simp)).1
  have cg4 := (cells_of_heap Kg_4.out 4 (by simp)).1
  have cg5 := (cells_of_heap Kg_4.out 5 (by simp)).1
  have cw0 := (cells_of_heap Kw_4.out 0 (by simp)).1
  have cw1 := (cells_of_heap Kw_4.out 1 (by simp)).1
  have cw2 := (cells_of_heap Kw_4.out 2 (by simp)).1
  have cw3 := (cells_of_heap Kw_4.out 3 (by simp)).1
  have cw4 := (cells_of_heap Kw_4.out 4 (by simp)).1
  have cw5 := (cells_of_heap Kw_4.out 5 (by simp)).1
  go_wp2_with fail
  refine (eqDebouncer_same rk rt rn rs rl _ _ rz _ (by omega) (owC_rd Og_4.out) (owC_rd Ow_4.out)).mono ?_
  rintro e w5 ⟨rfl, hb⟩
  clear cg0 cg1 cg2 cg3 cg4 cg5 cw0 cw1 cw2 cw3 cw4 cw5
  have HB5 := Lib.hid (HB4.out.trans (hb.mono HB4.out.size))
  have HS5 := Lib.hid hb.size
  have Kw_5 := Lib.hid (blk_below Kw_4.out hb)
  have Kg_5 := Lib.hid (blk_below Kg_4.out hb)
  have Ow_5 := Lib.hid (Ow_4.out.below hb)
  have Og_5 := Lib.hid (Og_4.out.below hb)
  clear Kw_4 Kg_4 Ow_4 Og_4
  clear hb
  have cg0 := (cells_of_heap Kg_5.out 0 (by simp)).1
  have cg1 := (cells_of_heap Kg_5.out 1 (by simp)).1
  have cg2 := (cells_of_heap Kg_5.out 2 (by simp)).1
  have cg3 := (cells_of_heap Kg_5.out 3 (by simp)).1
  have cg4 := (cells_of_heap Kg_5.out 4 (by simp)).1
  have cg5 := (cells_of_heap Kg_5.out 5 (by simp)).1
  go_wp2_with fail
  refine (markDebouncer_own _ rk rt rn rs rl _ rz _ 1 _ (by omega) (by omega) (by omega) Og_5.out).mono ?_
  rintro e w6 ⟨rfl, ho, ht⟩
  clear cg0 cg1 cg2 cg3 cg4 cg5
  have HB6 := Lib.hid (HB5.out.trans (ht.below (fun b hb => by have := Rg.out b hb; have := HB2.out.size; omega) HB5.out.size))
  have HS6 := Lib.hid ht.size
  have Kw_6 := Lib.hid (blk_turn Kw_5.out ht (fun hm => by have := Rg.out _ hm; have := HS2.out; omega))
  have Kg_6 := Lib.hid (blk_turn Kg_5.out ht (fun hm => by have := Rg.out _ hm; omega))
  have Ow_6 := Lib.hid (Ow_5.out.turn ht (fun b hb hb' => by have := Rg.out b hb'; have := Rw.out b hb; have := HS2.out; omega))
  have Og_6 := Lib.hid ho
  clear ho ht Kw_5 Kg_5 Ow_5 Og_5
  have cg0 := (cells_of_heap Kg_6.out 0 (by simp)).1
  have cg1 := (cells_of_heap Kg_6.out 1 (by simp)).1
  have cg2 := (cells_of_heap Kg_6.out 2 (by simp)).1
  have cg3 := (cells_of_heap Kg_6.out 3 (by simp)).1
  have cg4 := (cells_of_heap Kg_6.out 4 (by simp)).1
  have cg5 := (cells_of_heap Kg_6.out 5 (by simp)).1
  go_wp2_with fail
  refine (heldDebouncer_any rk rt rn rs rl _ rz.length 1 _ hrz (by omega) (by omega) (owC_marks Og_6.out)).mono ?_
  rintro e w7 ⟨rfl, hb⟩
  clear cg0 cg1 cg2 cg3 cg4 cg5
  have HB7 := Lib.hid (HB6.out.trans (hb.mono HB6.out.size))
  have HS7 := Lib.hid hb.size
  have Kw_7 := Lib.hid (blk_below Kw_6.out hb)
  have Kg_7 := Lib.hid (blk_below Kg_6.out hb)
  have Ow_7 := Lib.hid (Ow_6.out.below hb)
  have Og_7 := Lib.hid (Og_6.out.below hb)
  clear Kw_6 Kg_6 Ow_6 Og_6
  clear hb
  go_wp2_with fail
  refine (implNew_law k t n _ b _ HRR.out).mono ?_
  rintro e w8 ⟨a3, c3, f3, rfl, h3, hb⟩
  have HB8 := Lib.hid (HB7.out.trans (hb.mono HB7.out.size))
  have HS8 := Lib.hid hb.size
  have Kw_8 := Lib.hid (blk_below Kw_7.out hb)
  have Kg_8 := Lib.hid (blk_below Kg_7.out hb)
  have Ow_8 := Lib.hid (Ow_7.out.below hb)
  have Og_8 := Lib.hid (Og_7.out.below hb)
  clear Kw_7 Kg_7 Ow_7 Og_7
  have Rh := Lib.hid (h3.range _ _ _ _)
  have Oh_8 := Lib.hid h3
  clear hb h3
  go_upto_region 14 with (fail)
  obtain ⟨w9, hw⟩ : ∃ x, x = w8.alloc (.cells #[.int .i64 rk, .int .i64 rt, .int .i64 rn, .int .i64 rs, .int .i64 rl, .slice a3 rz.length c3] 26) := ⟨_, rfl⟩
  have hb : Below w8.heap.size w8 w9 := by rw [hw]; exact below_alloc1 _ _
  have hk : w9.heap[w8.heap.size]? = some (.cells #[.int .i64 rk, .int .i64 rt, .int .i64 rn, .int .i64 rs, .int .i64 rl, .slice a3 rz.length c3] 26 (0, 0)) := by rw [hw]; exact heap_alloc_new _ _
  rw [← hw]
  have HB9 := Lib.hid (HB8.out.trans (hb.mono HB8.out.size))
  have HS9 := Lib.hid (show w8.heap.size < w9.heap.size from (Array.getElem?_eq_some_iff.mp hk).1)
  have Kw_9 := Lib.hid (blk_below Kw_8.out hb)
  have Kg_9 := Lib.hid (blk_below Kg_8.out hb)
  have Ow_9 := Lib.hid (Ow_8.out.below hb)
  have Og_9 := Lib.hid (Og_8.out.below hb)
  have Oh_9 := Lib.hid (Oh_8.out.below hb)
  clear Kw_8 Kg_8 Ow_8 Og_8 Oh_8
  have Kh_9 := Lib.hid hk
  clear hb hk hw
  have ch0 := (cells_of_heap Kh_9.out 0 (by simp)).1
  have ch1 := (cells_of_heap Kh_9.out 1 (by simp)).1
  have ch2 := (cells_of_heap Kh_9.out 2 (by simp)).1
  have ch3 := (cells_of_heap Kh_9.out 3 (by simp)).1
  have ch4 := (cells_of_heap Kh_9.out 4 (by simp)).1
  have ch5 := (cells_of_heap Kh_9.out 5 (by simp)).1
  have cw0 := (cells_of_heap Kw_9.out 0 (by simp)).1
  have cw1 := (cells_of_heap Kw_9.out 1 (by simp)).1
  have cw2 := (cells_of_heap Kw_9.out 2 (by simp)).1
  have cw3 := (cells_of_heap Kw_9.out 3 (by simp)).1
  have cw4 := (cells_of_heap Kw_9.out 4 (by simp)).1
  have cw5 := (cells_of_heap Kw_9.out 5 (by simp)).1
  go_wp2_with fail
  refine (eqDebouncer_same rk rt rn rs rl _ _ rz _ (by omega) (owC_rd Oh_9.out) (owC_rd Ow_9.out)).mono ?_
  rintro e w10 ⟨rfl, hb⟩
  clear ch0 ch1 ch2 ch3 ch4 ch5 cw0 cw1 cw2 cw3 cw4 cw5
  have HB10 := Lib.hid (HB9.out.trans (hb.mono HB9.out.size))
  have HS10 := Lib.hid hb.size
  have Kw_10 := Lib.hid (blk_below Kw_9.out hb)
  have Kg_10 := Lib.hid (blk_below Kg_9.out hb)
  have Kh_10 := Lib.hid (blk_below Kh_9.out hb)
  have Ow_10 := Lib.hid (Ow_9.out.below hb)
  have Og_10 := Lib.hid (Og_9.out.below hb)
  have Oh_10 := Lib.hid (Oh_9.out.below hb)
  clear Kw_9 Kg_9 Kh_9 Ow_9 Og_9 Oh_9
  clear hb
  have cg0 := (cells_of_heap Kg_10.out 0 (by simp)).1
  have cg1 := (cells_of_heap Kg_10.out 1 (by simp)).1
  have cg2 := (cells_of_heap Kg_10.out 2 (by simp)).1
  have cg3 := (cells_of_heap Kg_10.out 3 (by simp)).1
  have cg4 := (cells_of_heap Kg_10.out 4 (by simp)).1
  have cg5 := (cells_of_heap Kg_10.out 5 (by simp)).1
  go_wp2_with fail
  refine (heldDebouncer_any rk rt rn rs rl _ rz.length 1 _ hrz (by omega) (by omega) (owC_marks Og_10.out)).mono ?_
  rintro e w11 ⟨rfl, hb⟩
  clear cg0 cg1 cg2 cg3 cg4 cg5
  have HB11 := Lib.hid (HB10.out.trans (hb.mono HB10.out.size))
  have HS11 := Lib.hid hb.size
  have Kw_11 := Lib.hid (blk_below Kw_10.out hb)
  have Kg_11 := Lib.hid (blk_below Kg_10.out hb)
  have Kh_11 := Lib.hid (blk_below Kh_10.out hb)
  have Ow_11 := Lib.hid (Ow_10.out.below hb)
  have Og_11 := Lib.hid (Og_10.out.below hb)
  have Oh_11 := Lib.hid (Oh_10.out.below hb)
  clear Kw_10 Kg_10 Kh_10 Ow_10 Og_10 Oh_10
  clear hb
  go_wp2
  go_ret
  exact ⟨rfl, HB11.out⟩

set_option maxHeartbeats 1000000 in
set_option maxRecDepth 100000 in
theorem lawDebounceStep_walk (k t n s l : Int) (a : Option Addr) (m cap : Nat) (zs : List Int) (raw : Int) (w : World) (hm : zs.length = m) (hml : m ≤ maxLen) (h : Rd w (.slice a m cap) (zs.map (.int .i64))) : Calls Try.prog 8 #[dbv k t n s l (.slice a m cap), .int .i64 raw] w fun e w' => e = .returned (.bool true) ∧ Below w.heap.size w w' := by
  subst hm
  have HR := Lib.hid h
  clear h
  by_cases hl : zs.length ≤ 1048576
  · have hsz : (if (1048576 : Int) < (zs.length : Int) then -1 else (1048576 : Int) - (zs.length : Int)) = 1048576 - (zs.length : Int) := if_neg (by omega)
    have hsz0 : ¬ (1048576 : Int) - (zs.length : Int) < 0 := by omega
    have HSZ := Lib.hid hsz
    clear hsz
    obtain ⟨⟨⟨rk, rt, rn, rs, rl, rz⟩, b⟩, hR⟩ : ∃ x, stepR k t n s l zs raw = x := ⟨_, rfl⟩
    have hrz := stepR_len k t n s l zs raw
    rw [hR] at hrz
    replace hrz : rz.length ≤ 1048576 := hrz
    have HRR := Lib.hid hR
    clear hR
    obtain ⟨w0, hw0⟩ : ∃ x, x = (w.alloc (.cells #[.int .i64 k, .int .i64 t, .int .i64 n, .int .i64 s, .int .i64 l, .slice a zs.length cap] 39)) := ⟨_, rfl⟩
    have HB0 := Lib.hid (show Below w.heap.size w w0 by rw [hw0]; exact (Below.refl _ _).alloc (Nat.le_refl _) _)
    have Kd_0 := Lib.hid (show w0.heap[w.heap.size]? = some (.cells #[.int .i64 k, .int .i64 t, .int .i64 n, .int .i64 s, .int .i64 l, .slice a zs.length cap] 39 (0, 0)) by rw [hw0]; exact heap_alloc_new w _)
    have SZ0 := Lib.hid (show w0.heap.size = w.heap.size + 1 by rw [hw0]; simp)
    have HW := Lib.hid hw0
    clear hw0
    go_enter Try.func8, Try.ntmps8
    have cd0 := (cells_of_heap Kd_0.out 0 (by simp)).1
    have cd1 := (cells_of_heap Kd_0.out 1 (by simp)).1
    have cd2 := (cells_of_heap Kd_0.out 2 (by simp)).1
    have cd3 := (cells_of_heap Kd_0.out 3 (by simp)).1
    have cd4 := (cells_of_heap Kd_0.out 4 (by simp)).1
    have cd5 := (cells_of_heap Kd_0.out 5 (by simp)).1
    go_wp2_with fail
    rw [← HW.out]
    refine (szDebouncer_any k t n s l a zs.length cap 1048576 _ (by omega) (by omega) hml).mono ?_
    rw [HSZ.out]
    rintro e w1 ⟨rfl, hb⟩
    clear cd0 cd1 cd2 cd3 cd4 cd5
    have HB1 := Lib.hid (HB0.out.trans (hb.mono HB0.out.size))
    have HS1 := Lib.hid hb.size
    have Kd_1 := Lib.hid (blk_below Kd_0.out hb)
    clear Kd_0
    clear hb
    have cd0 := (cells_of_heap Kd_1.out 0 (by simp)).1
    have cd1 := (cells_of_heap Kd_1.out 1 (by simp)).1
    have cd2 := (cells_of_heap Kd_1.out 2 (by simp)).1
    have cd3 := (cells_of_heap Kd_1.out 3 (by simp)).1
    have cd4 := (cells_of_heap Kd_1.out 4 (by simp)).1
    have cd5 := (cells_of_heap Kd_1.out 5 (by simp)).1
    go_wp2_with fail
    refine (toDebouncer_law k t n s l _ zs _ hl (HR.out.below HB1.out)).mono ?_
    rintro e w2 ⟨a1, c1, f1, rfl, h1, hb⟩
    clear cd0 cd1 cd2 cd3 cd4 cd5
    have HB2 := Lib.hid (HB1.out.trans (hb.mono HB1.out.size))
    have HS2 := Lib.hid hb.size
    have Kd_2 := Lib.hid (blk_below Kd_1.out hb)
    clear Kd_1
    have Rt := Lib.hid (h1.range _ _ _ _)
    have Ot_2 := Lib.hid h1
    clear hb h1
    go_wp2_with fail
    refine (specStep_law k t n s l _ zs raw _ b _ HRR.out hl (owC_rd Ot_2.out)).mono ?_
    rintro e w3 ⟨a2, c2, f2, rfl, h2, hb⟩
    have HB3 := Lib.hid (HB2.out.trans (hb.mono HB2.out.size))
    have HS3 := Lib.hid hb.size
    have Kd_3 := Lib.hid (blk_below Kd_2.out hb)
    have Ot_3 := Lib.hid (Ot_2.out.below hb)
    clear Kd_2 Ot_2
    have Rw := Lib.hid (h2.range _ _ _ _)
    have Ow_3 := Lib.hid h2
    clear hb h2
    go_upto_region 6 with (fail)
    obtain ⟨w4, hw⟩ : ∃ x, x = w3.alloc (.cells #[.int .i64 rk, .int .i64 rt, .int .i64 rn, .int .i64 rs, .int .i64 rl, .slice a2 rz.length c2] 26) := ⟨_, rfl⟩
    have hb : Below w3.heap.size w3 w4 := by rw [hw]; exact below_alloc1 _ _
    have hk : w4.heap[w3.heap.size]? = some (.cells #[.int .i64 rk, .int .i64 rt, .int .i64 rn, .int .i64 rs, .int .i64 rl, .slice a2 rz.length c2] 26 (0, 0)) := by rw [hw]; exact heap_alloc_new _ _
    rw [← hw]
    have HB4 := Lib.hid (HB3.out.trans (hb.mono HB3.out.size))
    have HS4 := Lib.hid (show w3.heap.size < w4.heap.size from (Array.getElem?_eq_some_iff.mp hk).1)
    have Kd_4 := Lib.hid (blk_below Kd_3.out hb)
    have Ot_4 := Lib.hid (Ot_3.out.below hb)
    have Ow_4 := Lib.hid (Ow_3.out.below hb)
    clear Kd_3 Ot_3 Ow_3
    have Kw_4 := Lib.hid hk
    clear hb hk hw
    have cd0 := (cells_of_heap Kd_4.out 0 (by simp)).1
    have cd1 := (cells_of_heap Kd_4.out 1 (by simp)).1
    have cd2 := (cells_of_heap Kd_4.out 2 (by simp)).1
    have cd3 := (cells_of_heap Kd_4.out 3 (by simp)).1
    have cd4 := (cells_of_heap Kd_4.out 4 (by simp)).1
    have cd5 := (cells_of_heap Kd_4.out 5 (by simp)).1
    go_wp2_with fail
    refine (toDebouncer_law k t n s l _ zs _ hl (HR.out.below HB4.out)).mono ?_
    rintro e w5 ⟨a3, c3, f3, rfl, h3, hb⟩
    clear cd0 cd1 cd2 cd3 cd4 cd5
    have HB5 := Lib.hid (HB4.out.trans (hb.mono HB4.out.size))
    have HS5 := Lib.hid hb.size
    have Kd_5 := Lib.hid (blk_below Kd_4.out hb)
    have Kw_5 := Lib.hid (blk_below Kw_4.out hb)
    have Ot_5 := Lib.hid (Ot_4.out.below hb)
    have Ow_5 := Lib.hid (Ow_4.out.below hb)
    clear Kd_4 Kw_4 Ot_4 Ow_4
    have Rx := Lib.hid (h3.range _ _ _ _)
    have Ox_5 := Lib.hid h3
    clear hb h3
    go_upto_region 7 with (fail)
    obtain ⟨w6, hw⟩ : ∃ x, x = w5.alloc (.cells #[.int .i64 k, .int .i64 t, .int .i64 n, .int .i64 s, .int .i64 l, .slice a3 zs.length c3] 26) := ⟨_, rfl⟩
    have hb : Below w5.heap.size w5 w6 := by rw [hw]; exact below_alloc1 _ _
    have hk : w6.heap[w5.heap.size]? = some (.cells #[.int .i64 k, .int .i64 t, .int .i64 n, .int .i64 s, .int .i64 l, .slice a3 zs.length c3] 26 (0, 0)) := by rw [hw]; exact heap_alloc_new _ _
    rw [← hw]
    have HB6 := Lib.hid (HB5.out.trans (hb.mono HB5.out.size))
    have HS6 := Lib.hid (show w5.heap.size < w6.heap.size from (Array.getElem?_eq_some_iff.mp hk).1)
    have Kd_6 := Lib.hid (blk_below Kd_5.out hb)
    have Kw_6 := Lib.hid (blk_below Kw_5.out hb)
    have Ot_6 := Lib.hid (Ot_5.out.below hb)
    have Ow_6 := Lib.hid (Ow_5.out.below hb)
    have Ox_6 := Lib.hid (Ox_5.out.below hb)
    clear Kd_5 Kw_5 Ot_5 Ow_5 Ox_5
    have Kx_6 := Lib.hid hk
    clear hb hk hw
    have cx0 := (cells_of_heap Kx_6.out 0 (by simp)).1
    have cx1 := (cells_of_heap Kx_6.out 1 (by simp)).1
    have cx2 := (cells_of_heap Kx_6.out 2 (by simp)).1
    have cx3 := (cells_of_heap Kx_6.out 3 (by simp)).1
    have cx4 := (cells_of_heap Kx_6.out 4 (by simp)).1
    have cx5 := (cells_of_heap Kx_6.out 5 (by simp)).1
    go_wp2_with fail
    refine (implStep_law k t n s l _ zs raw _ b _ HRR.out hl (owC_rd Ox_6.out)).mono ?_
    rintro e w7 ⟨a4, c4, f4, rfl, h4, hb⟩
    clear cx0 cx1 cx2 cx3 cx4 cx5
    have HB7 := Lib.hid (HB6.out.trans (hb.mono HB6.out.size))
    have HS7 := Lib.hid hb.size
    have Kd_7 := Lib.hid (blk_below Kd_6.out hb)
    have Kw_7 := Lib.hid (blk_below Kw_6.out hb)
    have Kx_7 := Lib.hid (blk_below Kx_6.out hb)
    have Ot_7 := Lib.hid (Ot_6.out.below hb)
    have Ow_7 := Lib.hid (Ow_6.out.below hb)
    have Ox_7 := Lib.hid (Ox_6.out.below hb)
    clear Kd_6 Kw_6 Kx_6 Ot_6 Ow_6 Ox_6
    have Rg := Lib.hid (h4.range _ _ _ _)
    have Og_7 := Lib.hid h4
    clear hb h4
    go_upto_region 8 with (fail)
    obtain ⟨w8, hw⟩ : ∃ x, x = w7.alloc (.cells #[.int .i64 rk, .int .i64 rt, .int .i64 rn, .int .i64 rs, .int .i64 rl, .slice a4 rz.length c4] 26) := ⟨_, rfl⟩
    have hb : Below w7.heap.size w7 w8 := by rw [hw]; exact below_alloc1 _ _
    have hk : w8.heap[w7.heap.size]? = some (.cells #[.int .i64 rk, .int .i64 rt, .int .i64 rn, .int .i64 rs, .int .i64 rl, .slice a4 rz.length c4] 26 (0, 0)) := by rw [hw]; exact heap_alloc_new _ _
    rw [← hw]
    have HB8 := Lib.hid (HB7.out.trans (hb.mono HB7.out.size))
    have HS8 := Lib.hid (show w7.heap.size < w8.heap.size from (Array.getElem?_eq_some_iff.mp hk).1)
    have Kd_8 := Lib.hid (blk_below Kd_7.out hb)
    have Kw_8 := Lib.hid (blk_below Kw_7.out hb)
    have Kx_8 := Lib.hid (blk_below Kx_7.out hb)
    have Ot_8 := Lib.hid (Ot_7.out.below hb)
    have Ow_8 := Lib.hid (Ow_7.out.below hb)
    have Ox_8 := Lib.hid (Ox_7.out.below hb)
    have Og_8 := Lib.hid (Og_7.out.below hb)
    clear Kd_7 Kw_7 Kx_7 Ot_7 Ow_7 Ox_7 Og_7
    have Kg_8 := Lib.hid hk
    clear hb hk hw
    have cg0 := (cells_of_heap Kg_8.out 0 (by simp)).1
    have cg1 := (cells_of_heap Kg_8.out 1 (by simp)).1
    have cg2 := (cells_of_heap Kg_8.out 2 (by simp)).1
    have cg3 := (cells_of_heap Kg_8.out 3 (by simp)).1
    have cg4 := (cells_of_heap Kg_8.out 4 (by simp)).1
    have cg5 := (cells_of_heap Kg_8.out 5 (by simp)).1
    have cw0 := (cells_of_heap Kw_8.out 0 (by simp)).1
    have cw1 := (cells_of_heap Kw_8.out 1 (by simp)).1
    have cw2 := (cells_of_heap Kw_8.out 2 (by simp)).1
    have cw3 := (cells_of_heap Kw_8.out 3 (by simp)).1
    have cw4 := (cells_of_heap Kw_8.out 4 (by simp)).1
    have cw5 := (cells_of_heap Kw_8.out 5 (by simp)).1
    go_wp2_with fail
    refine (eqDebouncer_same rk rt rn rs rl _ _ rz _ (by omega) (owC_rd Og_8.out) (owC_rd Ow_8.out)).mono ?_
    rintro e w9 ⟨rfl, hb⟩
    clear cg0 cg1 cg2 cg3 cg4 cg5 cw0 cw1 cw2 cw3 cw4 cw5
    have HB9 := Lib.hid (HB8.out.trans (hb.mono HB8.out.size))
    have HS9 := Lib.hid hb.size
    have Kd_9 := Lib.hid (blk_below Kd_8.out hb)
    have Kw_9 := Lib.hid (blk_below Kw_8.out hb)
    have Kx_9 := Lib.hid (blk_below Kx_8.out hb)
    have Kg_9 := Lib.hid (blk_below Kg_8.out hb)
    have Ot_9 := Lib.hid (Ot_8.out.below hb)
    have Ow_9 := Lib.hid (Ow_8.out.below hb)
    have Ox_9 := Lib.hid (Ox_8.out.below hb)
    have Og_9 := Lib.hid (Og_8.out.below hb)
    clear Kd_8 Kw_8 Kx_8 Kg_8 Ot_8 Ow_8 Ox_8 Og_8
    clear hb
    go_upto_region 10 with (fail)
    go_cut [49] (fun sd wx => sd = .bool false ∧ Below w9.heap.size w9 wx)
    case first =>
      have cd0 := (cells_of_heap Kd_9.out 0 (by simp)).1
      have cd1 := (cells_of_heap Kd_9.out 1 (by simp)).1
      have cd2 := (cells_of_heap Kd_9.out 2 (by simp)).1
      have cd3 := (cells_of_heap Kd_9.out 3 (by simp)).1
      have cd4 := (cells_of_heap Kd_9.out 4 (by simp)).1
      have cd5 := (cells_of_heap Kd_9.out 5 (by simp)).1
      have cx0 := (cells_of_heap Kx_9.out 0 (by simp)).1
      have cx1 := (cells_of_heap Kx_9.out 1 (by simp)).1
      have cx2 := (cells_of_heap Kx_9.out 2 (by simp)).1
      have cx3 := (cells_of_heap Kx_9.out 3 (by simp)).1
      have cx4 := (cells_of_heap Kx_9.out 4 (by simp)).1
      have cx5 := (cells_of_heap Kx_9.out 5 (by simp)).1
      have ld : w.heap.size < w9.heap.size := (Array.getElem?_eq_some_iff.mp Kd_9.out).1
      have lx : w5.heap.size < w9.heap.size := (Array.getElem?_eq_some_iff.mp Kx_9.out).1
      go_region_held3 (fun w' => w'.cell? ⟨w.heap.size, 0, none⟩ = some (.int .i64 k) ∧ w'.cell? ⟨w.heap.size, 1, none⟩ = some (.int .i64 t) ∧ w'.cell? ⟨w.heap.size, 2, none⟩ = some (.int .i64 n) ∧ w'.cell? ⟨w.heap.size, 3, none⟩ = some (.int .i64 s) ∧ w'.cell? ⟨w.heap.size, 4, none⟩ = some (.int .i64 l) ∧ w'.cell? ⟨w.heap.size, 5, none⟩ = some (.slice a zs.length cap) ∧ w'.cell? ⟨w5.heap.size, 0, none⟩ = some (.int .i64 k) ∧ w'.cell? ⟨w5.heap.size, 1, none⟩ = some (.int .i64 t) ∧ w'.cell? ⟨w5.heap.size, 2, none⟩ = some (.int .i64 n) ∧ w'.cell? ⟨w5.heap.size, 3, none⟩ = some (.int .i64 s) ∧ w'.cell? ⟨w5.heap.size, 4, none⟩ = some (.int .i64 l) ∧ w'.cell? ⟨w5.heap.size, 5, none⟩ = some (.slice a3 zs.length c3)) (first | go_keep)
        (first | (go_at_call 24; refine (toDebouncer_law k t n s l _ zs _ hl (HR.out.below (by first | exact HB9.out | exact HB9.out.drew | exact HB9.out.drew.drew))).mono ?_; rintro e v1 ⟨a5, c5, f5, rfl, hy, hb1⟩; have hbr : Below w9.heap.size w9 v1 := (by first | exact hb1 | exact ((Below.refl _ _).drew).trans hb1 | exact ((Below.refl _ _).drew.drew).trans hb1); have kcd0 := (hbr.cell (p := ⟨w.heap.size, 0, none⟩) ld).trans cd0; have kcd1 := (hbr.cell (p := ⟨w.heap.size, 1, none⟩) ld).trans cd1; have kcd2 := (hbr.cell (p := ⟨w.heap.size, 2, none⟩) ld).trans cd2; have kcd3 := (hbr.cell (p := ⟨w.heap.size, 3, none⟩) ld).trans cd3; have kcd4 := (hbr.cell (p := ⟨w.heap.size, 4, none⟩) ld).trans cd4; have kcd5 := (hbr.cell (p := ⟨w.heap.size, 5, none⟩) ld).trans cd5; have kcx0 := (hbr.cell (p := ⟨w5.heap.size, 0, none⟩) lx).trans cx0; have kcx1 := (hbr.cell (p := ⟨w5.heap.size, 1, none⟩) lx).trans cx1; have kcx2 := (hbr.cell (p := ⟨w5.heap.size, 2, none⟩) lx).trans cx2; have kcx3 := (hbr.cell (p := ⟨w5.heap.size, 3, none⟩) lx).trans cx3; have kcx4 := (hbr.cell (p := ⟨w5.heap.size, 4, none⟩) lx).trans cx4; have kcx5 := (hbr.cell (p := ⟨w5.heap.size, 5, none⟩) lx).trans cx5; have HBR := Lib.hid hbr; have HY := Lib.hid hy; clear hbr hb1 hy) | (go_at_call 25; refine (eqDebouncer_same k t n s l _ _ zs _ (by omega) ((owC_rd Ox_9.out).below (by first | exact HBR.out | exact HBR.out.drew | exact HBR.out.drew.drew)) ((owC_rd HY.out).below (by first | exact Below.refl _ _ | exact (Below.refl _ _).drew | exact (Below.refl _ _).drew.drew))).mono ?_; rintro e v2 ⟨rfl, hb2⟩; have hbr : Below w9.heap.size w9 v2 := (by first | exact HBR.out.trans (hb2.mono HBR.out.size) | exact HBR.out.trans (((Below.refl _ _).drew.trans hb2).mono HBR.out.size) | exact HBR.out.trans (((Below.refl _ _).drew.drew.trans hb2).mono HBR.out.size)); have kcd0 := (hbr.cell (p := ⟨w.heap.size, 0, none⟩) ld).trans cd0; have kcd1 := (hbr.cell (p := ⟨w.heap.size, 1, none⟩) ld).trans cd1; have kcd2 := (hbr.cell (p := ⟨w.heap.size, 2, none⟩) ld).trans cd2; have kcd3 := (hbr.cell (p := ⟨w.heap.size, 3, none⟩) ld).trans cd3; have kcd4 := (hbr.cell (p := ⟨w.heap.size, 4, none⟩) ld).trans cd4; have kcd5 := (hbr.cell (p := ⟨w.heap.size, 5, none⟩) ld).trans cd5; have kcx0 := (hbr.cell (p := ⟨w5.heap.size, 0, none⟩) lx).trans cx0; have kcx1 := (hbr.cell (p := ⟨w5.heap.size, 1, none⟩) lx).trans cx1; have kcx2 := (hbr.cell (p := ⟨w5.heap.size, 2, none⟩) lx).trans cx2; have kcx3 := (hbr.cell (p := ⟨w5.heap.size, 3, none⟩) lx).trans cx3; have kcx4 := (hbr.cell (p := ⟨w5.heap.size, 4, none⟩) lx).trans cx4; have kcx5 := (hbr.cell (p := ⟨w5.heap.size, 5, none⟩) lx).trans cx5; have HB2 := Lib.hid hbr; clear hbr hb2))
      all_goals
        go_wp2
        go_meet
        exact ⟨rfl, by first | exact HB2.out | exact HB2.out.drew⟩
    case rest =>
      obtain ⟨rfl, hb⟩ := hcut
      obtain ⟨w10, hw⟩ : ∃ x, x = wc := ⟨_, rfl⟩
      rw [← hw] at hb ⊢
      clear hw
      have HB10 := Lib.hid (HB9.out.trans (hb.mono HB9.out.size))
      have HS10 := Lib.hid hb.size
      have Kd_10 := Lib.hid (blk_below Kd_9.out hb)
      have Kw_10 := Lib.hid (blk_below Kw_9.out hb)
      have Kx_10 := Lib.hid (blk_below Kx_9.out hb)
      have Kg_10 := Lib.hid (blk_below Kg_9.out hb)
      have Ot_10 := Lib.hid (Ot_9.out.below hb)
      have Ow_10 := Lib.hid (Ow_9.out.below hb)
      have Ox_10 := Lib.hid (Ox_9.out.below hb)
      have Og_10 := Lib.hid (Og_9.out.below hb)
      clear Kd_9 Kw_9 Kx_9 Kg_9 Ot_9 Ow_9 Ox_9 Og_9
      clear hb
      have cx0 := (cells_of_heap Kx_10.out 0 (by simp)).1
      have cx1 := (cells_of_heap Kx_10.out 1 (by simp)).1
      have cx2 := (cells_of_heap Kx_10.out 2 (by simp)).1
      have cx3 := (cells_of_heap Kx_10.out 3 (by simp)).1
      have cx4 := (cells_of_heap Kx_10.out 4 (by simp)).1
      have cx5 := (cells_of_heap Kx_10.out 5 (by simp)).1
      go_wp2_with fail
      refine (markDebouncer_own _ k t n s l _ zs _ 1 _ (by omega) (by omega) (by omega) Ox_10.out).mono ?_
      rintro e w11 ⟨rfl, ho, ht⟩
      clear cx0 cx1 cx2 cx3 cx4 cx5
      have HB11 := Lib.hid (HB10.out.trans (ht.below (fun b hb => by have := Rx.out b hb; have := HB4.out.size; omega) HB10.out.size))
      have HS11 := Lib.hid ht.size
      have Kd_11 := Lib.hid (blk_turn Kd_10.out ht (fun hm => by have := Rx.out _ hm; have := HS1.out; have := HS2.out; have := HS3.out; have := HS4.out; have := SZ0.out; omega))
      have Kw_11 := Lib.hid (blk_turn Kw_10.out ht (fun hm => by have := Rx.out _ hm; have := HS4.out; have := SZ0.out; omega))
      have Kx_11 := Lib.hid (blk_turn Kx_10.out ht (fun hm => by have := Rx.out _ hm; have := SZ0.out; omega))
      have Kg_11 := Lib.hid (blk_turn Kg_10.out ht (fun hm => by have := Rx.out _ hm; have := HS6.out; have := HS7.out; have := SZ0.out; omega))
      have Ot_11 := Lib.hid (Ot_10.out.turn ht (fun b hb hb' => by have := Rx.out b hb'; have := Rt.out b hb; have := HS3.out; have := HS4.out; have := SZ0.out; omega))
      have Ow_11 := Lib.hid (Ow_10.out.turn ht (fun b hb hb' => by have := Rx.out b hb'; have := Rw.out b hb; have := HS4.out; have := SZ0.out; omega))
      have Og_11 := Lib.hid (Og_10.out.turn ht (fun b hb hb' => by have := Rx.out b hb'; have := Rg.out b hb; have := HS6.out; have := SZ0.out; omega))
      have Ox_11 := Lib.hid ho
      clear ho ht Kd_10 Kw_10 Kx_10 Kg_10 Ot_10 Ow_10 Ox_10 Og_10
      have cg0 := (cells_of_heap Kg_11.out 0 (by simp)).1
      have cg1 := (cells_of_heap Kg_11.out 1 (by simp)).1
      have cg2 := (cells_of_heap Kg_11.out 2 (by simp)).1
      have cg3 := (cells_of_heap Kg_11.out 3 (by simp)).1
      have cg4 := (cells_of_heap Kg_11.out 4 (by simp)).1
      have cg5 := (cells_of_heap Kg_11.out 5 (by simp)).1
      have cw0 := (cells_of_heap Kw_11.out 0 (by simp)).1
      have cw1 := (cells_of_heap Kw_11.out 1 (by simp)).1
      have cw2 := (cells_of_heap Kw_11.out 2 (by simp)).1
      have cw3 := (cells_of_heap Kw_11.out 3 (by simp)).1
      have cw4 := (cells_of_heap Kw_11.out 4 (by simp)).1
      have cw5 := (cells_of_heap Kw_11.out 5 (by simp)).1
      go_wp2_with fail
      refine (eqDebouncer_same rk rt rn rs rl _ _ rz _ (by omega) (owC_rd Og_11.out) (owC_rd Ow_11.out)).mono ?_
      rintro e w12 ⟨rfl, hb⟩
      clear cg0 cg1 cg2 cg3 cg4 cg5 cw0 cw1 cw2 cw3 cw4 cw5
      have HB12 := Lib.hid (HB11.out.trans (hb.mono HB11.out.size))
      have HS12 := Lib.hid hb.size
      have Kd_12 := Lib.hid (blk_below Kd_11.out hb)
      have Kw_12 := Lib.hid (blk_below Kw_11.out hb)
      have Kx_12 := Lib.hid (blk_below Kx_11.out hb)
      have Kg_12 := Lib.hid (blk_below Kg_11.out hb)
      have Ot_12 := Lib.hid (Ot_11.out.below hb)
      have Ow_12 := Lib.hid (Ow_11.out.below hb)
      have Ox_12 := Lib.hid (Ox_11.out.below hb)
      have Og_12 := Lib.hid (Og_11.out.below hb)
      clear Kd_11 Kw_11 Kx_11 Kg_11 Ot_11 Ow_11 Ox_11 Og_11
      clear hb
      have cg0 := (cells_of_heap Kg_12.out 0 (by simp)).1
      have cg1 := (cells_of_heap Kg_12.out 1 (by simp)).1
      have cg2 := (cells_of_heap Kg_12.out 2 (by simp)).1
      have cg3 := (cells_of_heap Kg_12.out 3 (by simp)).1
      have cg4 := (cells_of_heap Kg_12.out 4 (by simp)).1
      have cg5 := (cells_of_heap Kg_12.out 5 (by simp)).1
      go_wp2_with fail
      refine (markDebouncer_own _ rk rt rn rs rl _ rz _ 1 _ (by omega) (by omega) (by omega) Og_12.out).mono ?_
      rintro e w13 ⟨rfl, ho, ht⟩
      clear cg0 cg1 cg2 cg3 cg4 cg5
      have HB13 := Lib.hid (HB12.out.trans (ht.below (fun b hb => by have := Rg.out b hb; have := HB6.out.size; omega) HB12.out.size))
      have HS13 := Lib.hid ht.size
      have Kd_13 := Lib.hid (blk_turn Kd_12.out ht (fun hm => by have := Rg.out _ hm; have := HS1.out; have := HS2.out; have := HS3.out; have := HS4.out; have := HS5.out; have := HS6.out; have := SZ0.out; omega))
      have Kw_13 := Lib.hid (blk_turn Kw_12.out ht (fun hm => by have := Rg.out _ hm; have := HS4.out; have := HS5.out; have := HS6.out; have := SZ0.out; omega))
      have Kx_13 := Lib.hid (blk_turn Kx_12.out ht (fun hm => by have := Rg.out _ hm; have := HS6.out; have := SZ0.out; omega))
      have Kg_13 := Lib.hid (blk_turn Kg_12.out ht (fun hm => by have := Rg.out _ hm; have := SZ0.out; omega))
      have Ot_13 := Lib.hid (Ot_12.out.turn ht (fun b hb hb' => by have := Rg.out b hb'; have := Rt.out b hb; have := HS3.out; have := HS4.out; have := HS5.out; have := HS6.out; have := SZ0.out; omega))
      have Ow_13 := Lib.hid (Ow_12.out.turn ht (fun b hb hb' => by have := Rg.out b hb'; have := Rw.out b hb; have := HS4.out; have := HS5.out; have := HS6.out; have := SZ0.out; omega))
      have Ox_13 := Lib.hid (Ox_12.out.turn ht (fun b hb hb' => by have := Rg.out b hb'; have := Rx.out b hb; have := HS6.out; have := SZ0.out; omega))
      have Og_13 := Lib.hid ho
      clear ho ht Kd_12 Kw_12 Kx_12 Kg_12 Ot_12 Ow_12 Ox_12 Og_12
      have cg0 := (cells_of_heap Kg_13.out 0 (by simp)).1
      have cg1 := (cells_of_heap Kg_13.out 1 (by simp)).1
      have cg2 := (cells_of_heap Kg_13.out 2 (by simp)).1
      have cg3 := (cells_of_heap Kg_13.out 3 (by simp)).1
      have cg4 := (cells_of_heap Kg_13.out 4 (by simp)).1
      have cg5 := (cells_of_heap Kg_13.out 5 (by simp)).1
      go_wp2_with fail
      refine (heldDebouncer_any rk rt rn rs rl _ rz.length 1 _ hrz (by omega) (by omega) (owC_marks Og_13.out)).mono ?_
      rintro e w14 ⟨rfl, hb⟩
      clear cg0 cg1 cg2 cg3 cg4 cg5
      have HB14 := Lib.hid (HB13.out.trans (hb.mono HB13.out.size))
      have HS14 := Lib.hid hb.size
      have Kd_14 := Lib.hid (blk_below Kd_13.out hb)
      have Kw_14 := Lib.hid (blk_below Kw_13.out hb)
      have Kx_14 := Lib.hid (blk_below Kx_13.out hb)
      have Kg_14 := Lib.hid (blk_below Kg_13.out hb)
      have Ot_14 := Lib.hid (Ot_13.out.below hb)
      have Ow_14 := Lib.hid (Ow_13.out.below hb)
      have Ox_14 := Lib.hid (Ox_13.out.below hb)
      have Og_14 := Lib.hid (Og_13.out.below hb)
      clear Kd_13 Kw_13 Kx_13 Kg_13 Ot_13 Ow_13 Ox_13 Og_13
      clear hb
      have cd0 := (cells_of_heap Kd_14.out 0 (by simp)).1
      have cd1 := (cells_of_heap Kd_14.out 1 (by simp)).1
      have cd2 := (cells_of_heap Kd_14.out 2 (by simp)).1
      have cd3 := (cells_of_heap Kd_14.out 3 (by simp)).1
      have cd4 := (cells_of_heap Kd_14.out 4 (by simp)).1
      have cd5 := (cells_of_heap Kd_14.out 5 (by simp)).1
      go_wp2_with fail
      refine (toDebouncer_law k t n s l _ zs _ hl (HR.out.below HB14.out)).mono ?_
      rintro e w15 ⟨a6, c6, f6, rfl, h6, hb⟩
      clear cd0 cd1 cd2 cd3 cd4 cd5
      have HB15 := Lib.hid (HB14.out.trans (hb.mono HB14.out.size))
      have HS15 := Lib.hid hb.size
      have Kd_15 := Lib.hid (blk_below Kd_14.out hb)
      have Kw_15 := Lib.hid (blk_below Kw_14.out hb)
      have Kx_15 := Lib.hid (blk_below Kx_14.out hb)
      have Kg_15 := Lib.hid (blk_below Kg_14.out hb)
      have Ot_15 := Lib.hid (Ot_14.out.below hb)
      have Ow_15 := Lib.hid (Ow_14.out.below hb)
      have Ox_15 := Lib.hid (Ox_14.out.below hb)
      have Og_15 := Lib.hid (Og_14.out.below hb)
      clear Kd_14 Kw_14 Kx_14 Kg_14 Ot_14 Ow_14 Ox_14 Og_14
      have Ru := Lib.hid (h6.range _ _ _ _)
      have Ou_15 := Lib.hid h6
      clear hb h6
      go_wp2_with fail
      refine (implStep_law k t n s l _ zs raw _ b _ HRR.out hl (owC_rd Ou_15.out)).mono ?_
      rintro e w16 ⟨a7, c7, f7, rfl, h7, hb⟩
      have HB16 := Lib.hid (HB15.out.trans (hb.mono HB15.out.size))
      have HS16 := Lib.hid hb.size
      have Kd_16 := Lib.hid (blk_below Kd_15.out hb)
      have Kw_16 := Lib.hid (blk_below Kw_15.out hb)
      have Kx_16 := Lib.hid (blk_below Kx_15.out hb)
      have Kg_16 := Lib.hid (blk_below Kg_15.out hb)
      have Ot_16 := Lib.hid (Ot_15.out.below hb)
      have Ow_16 := Lib.hid (Ow_15.out.below hb)
      have Ox_16 := Lib.hid (Ox_15.out.below hb)
      have Og_16 := Lib.hid (Og_15.out.below hb)
      have Ou_16 := Lib.hid (Ou_15.out.below hb)
      clear Kd_15 Kw_15 Kx_15 Kg_15 Ot_15 Ow_15 Ox_15 Og_15 Ou_15
      have Rh := Lib.hid (h7.range _ _ _ _)
      have Oh_16 := Lib.hid h7
      clear hb h7
      go_upto_region 25 with (fail)
      obtain ⟨w17, hw⟩ : ∃ x, x = w16.alloc (.cells #[.int .i64 rk, .int .i64 rt, .int .i64 rn, .int .i64 rs, .int .i64 rl, .slice a7 rz.length c7] 26) := ⟨_, rfl⟩
      have hb : Below w16.heap.size w16 w17 := by rw [hw]; exact below_alloc1 _ _
      have hk : w17.heap[w16.heap.size]? = some (.cells #[.int .i64 rk, .int .i64 rt, .int .i64 rn, .int .i64 rs, .int .i64 rl, .slice a7 rz.length c7] 26 (0, 0)) := by rw [hw]; exact heap_alloc_new _ _
      rw [← hw]
      have HB17 := Lib.hid (HB16.out.trans (hb.mono HB16.out.size))
      have HS17 := Lib.hid (show w16.heap.size < w17.heap.size from (Array.getElem?_eq_some_iff.mp hk).1)
      have Kd_17 := Lib.hid (blk_below Kd_16.out hb)
      have Kw_17 := Lib.hid (blk_below Kw_16.out hb)
      have Kx_17 := Lib.hid (blk_below Kx_16.out hb)
      have Kg_17 := Lib.hid (blk_below Kg_16.out hb)
      have Ot_17 := Lib.hid (Ot_16.out.below hb)
      have Ow_17 := Lib.hid (Ow_16.out.below hb)
      have Ox_17 := Lib.hid (Ox_16.out.below hb)
      have Og_17 := Lib.hid (Og_16.out.below hb)
      have Ou_17 := Lib.hid (Ou_16.out.below hb)
      have Oh_17 := Lib.hid (Oh_16.out.below hb)
      clear Kd_16 Kw_16 Kx_16 Kg_16 Ot_16 Ow_16 Ox_16 Og_16 Ou_16 Oh_16
      have Kh_17 := Lib.hid hk
      clear hb hk hw
      have ch0 := (cells_of_heap Kh_17.out 0 (by simp)).1
      have ch1 := (cells_of_heap Kh_17.out 1 (by simp)).1
      have ch2 := (cells_of_heap Kh_17.out 2 (by simp)).1
      have ch3 := (cells_of_heap Kh_17.out 3 (by simp)).1
      have ch4 := (cells_of_heap Kh_17.out 4 (by simp)).1
      have ch5 := (cells_of_heap Kh_17.out 5 (by simp)).1
      have cw0 := (cells_of_heap Kw_17.out 0 (by simp)).1
      have cw1 := (cells_of_heap Kw_17.out 1 (by simp)).1
      have cw2 := (cells_of_heap Kw_17.out 2 (by simp)).1
      have cw3 := (cells_of_heap Kw_17.out 3 (by simp)).1
      have cw4 := (cells_of_heap Kw_17.out 4 (by simp)).1
      have cw5 := (cells_of_heap Kw_17.out 5 (by simp)).1
      go_wp2_with fail
      refine (eqDebouncer_same rk rt rn rs rl _ _ rz _ (by omega) (owC_rd Oh_17.out) (owC_rd Ow_17.out)).mono ?_
      rintro e w18 ⟨rfl, hb⟩
      clear ch0 ch1 ch2 ch3 ch4 ch5 cw0 cw1 cw2 cw3 cw4 cw5
      have HB18 := Lib.hid (HB17.out.trans (hb.mono HB17.out.size))
      have HS18 := Lib.hid hb.size
      have Kd_18 := Lib.hid (blk_below Kd_17.out hb)
      have Kw_18 := Lib.hid (blk_below Kw_17.out hb)
      have Kx_18 := Lib.hid (blk_below Kx_17.out hb)
      have Kg_18 := Lib.hid (blk_below Kg_17.out hb)
      have Kh_18 := Lib.hid (blk_below Kh_17.out hb)
      have Ot_18 := Lib.hid (Ot_17.out.below hb)
      have Ow_18 := Lib.hid (Ow_17.out.below hb)
      have Ox_18 := Lib.hid (Ox_17.out.below hb)
      have Og_18 := Lib.hid (Og_17.out.below hb)
      have Ou_18 := Lib.hid (Ou_17.out.below hb)
      have Oh_18 := Lib.hid (Oh_17.out.below hb)
      clear Kd_17 Kw_17 Kx_17 Kg_17 Kh_17 Ot_17 Ow_17 Ox_17 Og_17 Ou_17 Oh_17
      clear hb
      have cg0 := (cells_of_heap Kg_18.out 0 (by simp)).1
      have cg1 := (cells_of_heap Kg_18.out 1 (by simp)).1
      have cg2 := (cells_of_heap Kg_18.out 2 (by simp)).1
      have cg3 := (cells_of_heap Kg_18.out 3 (by simp)).1
      have cg4 := (cells_of_heap Kg_18.out 4 (by simp)).1
      have cg5 := (cells_of_heap Kg_18.out 5 (by simp)).1
      go_wp2_with fail
      refine (heldDebouncer_any rk rt rn rs rl _ rz.length 1 _ hrz (by omega) (by omega) (owC_marks Og_18.out)).mono ?_
      rintro e w19 ⟨rfl, hb⟩
      clear cg0 cg1 cg2 cg3 cg4 cg5
      have HB19 := Lib.hid (HB18.out.trans (hb.mono HB18.out.size))
      have HS19 := Lib.hid hb.size
      have Kd_19 := Lib.hid (blk_below Kd_18.out hb)
      have Kw_19 := Lib.hid (blk_below Kw_18.out hb)
      have Kx_19 := Lib.hid (blk_below Kx_18.out hb)
      have Kg_19 := Lib.hid (blk_below Kg_18.out hb)
      have Kh_19 := Lib.hid (blk_below Kh_18.out hb)
      have Ot_19 := Lib.hid (Ot_18.out.below hb)
      have Ow_19 := Lib.hid (Ow_18.out.below hb)
      have Ox_19 := Lib.hid (Ox_18.out.below hb)
      have Og_19 := Lib.hid (Og_18.out.below hb)
      have Ou_19 := Lib.hid (Ou_18.out.below hb)
      have Oh_19 := Lib.hid (Oh_18.out.below hb)
      clear Kd_18 Kw_18 Kx_18 Kg_18 Kh_18 Ot_18 Ow_18 Ox_18 Og_18 Ou_18 Oh_18
      clear hb
      go_wp2
      go_ret
      exact ⟨rfl, HB19.out⟩
  · have hsz : (if (1048576 : Int) < (zs.length : Int) then -1 else (1048576 : Int) - (zs.length : Int)) = -1 := if_pos (by omega)
    have HSZ := Lib.hid hsz
    clear hsz hl
    obtain ⟨w0, hw0⟩ : ∃ x, x = (w.alloc (.cells #[.int .i64 k, .int .i64 t, .int .i64 n, .int .i64 s, .int .i64 l, .slice a zs.length cap] 39)) := ⟨_, rfl⟩
    have HB0 := Lib.hid (show Below w.heap.size w w0 by rw [hw0]; exact (Below.refl _ _).alloc (Nat.le_refl _) _)
    have Kd_0 := Lib.hid (show w0.heap[w.heap.size]? = some (.cells #[.int .i64 k, .int .i64 t, .int .i64 n, .int .i64 s, .int .i64 l, .slice a zs.length cap] 39 (0, 0)) by rw [hw0]; exact heap_alloc_new w _)
    have SZ0 := Lib.hid (show w0.heap.size = w.heap.size + 1 by rw [hw0]; simp)
    have HW := Lib.hid hw0
    clear hw0
    go_enter Try.func8, Try.ntmps8
    have cd0 := (cells_of_heap Kd_0.out 0 (by simp)).1
    have cd1 := (cells_of_heap Kd_0.out 1 (by simp)).1
    have cd2 := (cells_of_heap Kd_0.out 2 (by simp)).1
    have cd3 := (cells_of_heap Kd_0.out 3 (by simp)).1
    have cd4 := (cells_of_heap Kd_0.out 4 (by simp)).1
    have cd5 := (cells_of_heap Kd_0.out 5 (by simp)).1
    go_wp2_with fail
    rw [← HW.out]
    refine (szDebouncer_any k t n s l a zs.length cap 1048576 _ (by omega) (by omega) hml).mono ?_
    rw [HSZ.out]
    rintro e w1 ⟨rfl, hb⟩
    clear cd0 cd1 cd2 cd3 cd4 cd5
    have HB1 := Lib.hid (HB0.out.trans (hb.mono HB0.out.size))
    have HS1 := Lib.hid hb.size
    have Kd_1 := Lib.hid (blk_below Kd_0.out hb)
    clear Kd_0
    clear hb
    go_wp2
    go_ret
    exact ⟨rfl, HB1.out⟩

set_option maxHeartbeats 1000000 in
set_option maxRecDepth 100000 in
theorem lawDebounceRun_walk (k t n s l : Int) (a : Option Addr) (m cap : Nat) (zs : List Int) (ax : Option Addr) (mx capx : Nat) (xs : List Int) (w : World) (hm : zs.length = m) (hml : m ≤ maxLen) (h : Rd w (.slice a m cap) (zs.map (.int .i64))) (hmx : xs.length = mx) (hx : Rd w (.slice ax mx capx) (xs.map (.int .i64))) : Calls Try.prog 9 #[dbv k t n s l (.slice a m cap), .slice ax mx capx] w fun e w' => e = .returned (.bool true) ∧ Below w.heap.size w w' := by
  subst hm
  have HR := Lib.hid h
  clear h
  subst hmx
  have HX := Lib.hid hx
  clear hx
  by_cases hlx : xs.length ≤ 1048576
  rotate_left
  · have hlx' : (1048576 : Int) < (xs.length : Int) := by omega
    obtain ⟨w0, hw0⟩ : ∃ x, x = (w.alloc (.cells #[.int .i64 k, .int .i64 t, .int .i64 n, .int .i64 s, .int .i64 l, .slice a zs.length cap] 39)) := ⟨_, rfl⟩
    have HB0 := Lib.hid (show Below w.heap.size w w0 by rw [hw0]; exact (Below.refl _ _).alloc (Nat.le_refl _) _)
    have HW := Lib.hid hw0
    clear hw0 hlx
    go_enter Try.func9, Try.ntmps9
    go_wp2
    go_ret
    rw [← HW.out]
    exact ⟨rfl, HB0.out⟩
  by_cases hl : zs.length ≤ 1048576
  · have hsz : (if (1048576 : Int) < (zs.length : Int) then -1 else (1048576 : Int) - (zs.length : Int)) = 1048576 - (zs.length : Int) := if_neg (by omega)
    have hsz0 : ¬ (1048576 : Int) - (zs.length : Int) < 0 := by omega
    have HSZ := Lib.hid hsz
    clear hsz
    obtain ⟨⟨⟨rk, rt, rn, rs, rl, rz⟩, ro, b⟩, hR⟩ : ∃ x, runR k t n s l zs xs = x := ⟨_, rfl⟩
    have hrz := (runR_len k t n s l zs xs).1
    have hro := (runR_len k t n s l zs xs).2
    rw [hR] at hrz hro
    replace hrz : rz.length ≤ 1048576 := hrz
    replace hro : ro.length ≤ 1048576 := hro
    have HRR := Lib.hid hR
    clear hR
    obtain ⟨w0, hw0⟩ : ∃ x, x = (w.alloc (.cells #[.int .i64 k, .int .i64 t, .int .i64 n, .int .i64 s, .int .i64 l, .slice a zs.length cap] 39)) := ⟨_, rfl⟩
    have HB0 := Lib.hid (show Below w.heap.size w w0 by rw [hw0]; exact (Below.refl _ _).alloc (Nat.le_refl _) _)
    have Kd_0 := Lib.hid (show w0.heap[w.heap.size]? = some (.cells #[.int .i64 k, .int .i64 t, .int .i64 n, .int .i64 s, .int .i64 l, .slice a zs.length cap] 39 (0, 0)) by rw [hw0]; exact heap_alloc_new w _)
    have SZ0 := Lib.hid (show w0.heap.size = w.heap.size + 1 by rw [hw0]; simp)
    have HW := Lib.hid hw0
    clear hw0
    go_enter Try.func9, Try.ntmps9
    have cd0 := (cells_of_heap Kd_0.out 0 (by simp)).1
    have cd1 := (cells_of_heap Kd_0.out 1 (by simp)).1
    have cd2 := (cells_of_heap Kd_0.out 2 (by simp)).1
    have cd3 := (cells_of_heap Kd_0.out 3 (by simp)).1
    have cd4 := (cells_of_heap Kd_0.out 4 (by simp)).1
    have cd5 := (cells_of_heap Kd_0.out 5 (by simp)).1
    go_wp2_with fail
    rw [← HW.out]
    refine (szDebouncer_any k t n s l a zs.length cap 1048576 _ (by omega) (by omega) hml).mono ?_
    rw [HSZ.out]
    rintro e w1 ⟨rfl, hb⟩
    clear cd0 cd1 cd2 cd3 cd4 cd5
    have HB1 := Lib.hid (HB0.out.trans (hb.mono HB0.out.size))
    have HS1 := Lib.hid hb.size
    have Kd_1 := Lib.hid (blk_below Kd_0.out hb)
    clear Kd_0
    clear hb
    have cd0 := (cells_of_heap Kd_1.out 0 (by simp)).1
    have cd1 := (cells_of_heap Kd_1.out 1 (by simp)).1
    have cd2 := (cells_of_heap Kd_1.out 2 (by simp)).1
    have cd3 := (cells_of_heap Kd_1.out 3 (by simp)).1
    have cd4 := (cells_of_heap Kd_1.out 4 (by simp)).1
    have cd5 := (cells_of_heap Kd_1.out 5 (by simp)).1
    go_wp2_with fail
    refine (toDebouncer_law k t n s l _ zs _ hl (HR.out.below HB1.out)).mono ?_
    rintro e w2 ⟨a1, c1, f1, rfl, h1, hb⟩
    clear cd0 cd1 cd2 cd3 cd4 cd5
    have HB2 := Lib.hid (HB1.out.trans (hb.mono HB1.out.size))
    have HS2 := Lib.hid hb.size
    have Kd_2 := Lib.hid (blk_below Kd_1.out hb)
    clear Kd_1
    have Rt := Lib.hid (h1.range _ _ _ _)
    have Ot_2 := Lib.hid h1
    clear hb h1
    go_wp2_with fail
    refine (toIntS_law _ xs _ hlx (HX.out.below HB2.out)).mono ?_
    rintro e w3 ⟨a2, c2, f2, rfl, h2, hb⟩
    have HB3 := Lib.hid (HB2.out.trans (hb.mono HB2.out.size))
    have HS3 := Lib.hid hb.size
    have Kd_3 := Lib.hid (blk_below Kd_2.out hb)
    have Ot_3 := Lib.hid (Ot_2.out.below hb)
    clear Kd_2 Ot_2
    have Rti := Lib.hid (h2.range _ _ _ _)
    have Oti_3 := Lib.hid h2
    clear hb h2
    go_wp2_with fail
    refine (specRun_law k t n s l _ zs _ _ xs _ _ b _ HRR.out hl (owC_rd Ot_3.out) hlx (owC_rd Oti_3.out)).mono ?_
    rintro e w4 ⟨a3, c3, f3, a3', c3', f3', rfl, h3, h3', hd3, hb⟩
    have HB4 := Lib.hid (HB3.out.trans (hb.mono HB3.out.size))
    have HS4 := Lib.hid hb.size
    have Kd_4 := Lib.hid (blk_below Kd_3.out hb)
    have Ot_4 := Lib.hid (Ot_3.out.below hb)
    have Oti_4 := Lib.hid (Oti_3.out.below hb)
    clear Kd_3 Ot_3 Oti_3
    have Rw := Lib.hid (h3.range _ _ _ _)
    have Ow_4 := Lib.hid h3
    have Rwo := Lib.hid (h3'.range _ _ _ _)
    have Owo_4 := Lib.hid h3'
    clear hb h3 h3'
    have HD3 := Lib.hid hd3
    clear hd3
    go_upto_region 8 with (fail)
    obtain ⟨w5, hw⟩ : ∃ x, x = w4.alloc (.cells #[.int .i64 rk, .int .i64 rt, .int .i64 rn, .int .i64 rs, .int .i64 rl, .slice a3 rz.length c3] 26) := ⟨_, rfl⟩
    have hb : Below w4.heap.size w4 w5 := by rw [hw]; exact below_alloc1 _ _
    have hk : w5.heap[w4.heap.size]? = some (.cells #[.int .i64 rk, .int .i64 rt, .int .i64 rn, .int .i64 rs, .int .i64 rl, .slice a3 rz.length c3] 26 (0, 0)) := by rw [hw]; exact heap_alloc_new _ _
    rw [← hw]
    have HB5 := Lib.hid (HB4.out.trans (hb.mono HB4.out.size))
    have HS5 := Lib.hid (show w4.heap.size < w5.heap.size from (Array.getElem?_eq_some_iff.mp hk).1)
    have Kd_5 := Lib.hid (blk_below Kd_4.out hb)
    have Ot_5 := Lib.hid (Ot_4.out.below hb)
    have Oti_5 := Lib.hid (Oti_4.out.below hb)
    have Ow_5 := Lib.hid (Ow_4.out.below hb)
    have Owo_5 := Lib.hid (Owo_4.out.below hb)
    clear Kd_4 Ot_4 Oti_4 Ow_4 Owo_4
    have Kw_5 := Lib.hid hk
    clear hb hk hw
    have cd0 := (cells_of_heap Kd_5.out 0 (by simp)).1
    have cd1 := (cells_of_heap Kd_5.out 1 (by simp)).1
    have cd2 := (cells_of_heap Kd_5.out 2 (by simp)).1
    have cd3 := (cells_of_heap Kd_5.out 3 (by simp)).1
    have cd4 := (cells_of_heap Kd_5.out 4 (by simp)).1
    have cd5 := (cells_of_heap Kd_5.out 5 (by simp)).1
    go_wp2_with fail
    refine (toDebouncer_law k t n s l _ zs _ hl (HR.out.below HB5.out)).mono ?_
    rintro e w6 ⟨a4, c4, f4, rfl, h4, hb⟩
    clear cd0 cd1 cd2 cd3 cd4 cd5
    have HB6 := Lib.hid (HB5.out.trans (hb.mono HB5.out.size))
    have HS6 := Lib.hid hb.size
    have Kd_6 := Lib.hid (blk_below Kd_5.out hb)
    have Kw_6 := Lib.hid (blk_below Kw_5.out hb)
    have Ot_6 := Lib.hid (Ot_5.out.below hb)
    have Oti_6 := Lib.hid (Oti_5.out.below hb)
    have Ow_6 := Lib.hid (Ow_5.out.below hb)
    have Owo_6 := Lib.hid (Owo_5.out.below hb)
    clear Kd_5 Kw_5 Ot_5 Oti_5 Ow_5 Owo_5
    have Rx := Lib.hid (h4.range _ _ _ _)
    have Ox_6 := Lib.hid h4
    clear hb h4
    go_upto_region 9 with (fail)
    obtain ⟨w7, hw⟩ : ∃ x, x = w6.alloc (.cells #[.int .i64 k, .int .i64 t, .int .i64 n, .int .i64 s, .int .i64 l, .slice a4 zs.length c4] 26) := ⟨_, rfl⟩
    have hb : Below w6.heap.size w6 w7 := by rw [hw]; exact below_alloc1 _ _
    have hk : w7.heap[w6.heap.size]? = some (.cells #[.int .i64 k, .int .i64 t, .int .i64 n, .int .i64 s, .int .i64 l, .slice a4 zs.length c4] 26 (0, 0)) := by rw [hw]; exact heap_alloc_new _ _
    rw [← hw]
    have HB7 := Lib.hid (HB6.out.trans (hb.mono HB6.out.size))
    have HS7 := Lib.hid (show w6.heap.size < w7.heap.size from (Array.getElem?_eq_some_iff.mp hk).1)
    have Kd_7 := Lib.hid (blk_below Kd_6.out hb)
    have Kw_7 := Lib.hid (blk_below Kw_6.out hb)
    have Ot_7 := Lib.hid (Ot_6.out.below hb)
    have Oti_7 := Lib.hid (Oti_6.out.below hb)
    have Ow_7 := Lib.hid (Ow_6.out.below hb)
    have Owo_7 := Lib.hid (Owo_6.out.below hb)
    have Ox_7 := Lib.hid (Ox_6.out.below hb)
    clear Kd_6 Kw_6 Ot_6 Oti_6 Ow_6 Owo_6 Ox_6
    have Kx_7 := Lib.hid hk
    clear hb hk hw
    go_wp2_with fail
    refine (toIntS_law _ xs _ hlx (HX.out.below HB7.out)).mono ?_
    rintro e w8 ⟨a5, c5, f5, rfl, h5, hb⟩
    have HB8 := Lib.hid (HB7.out.trans (hb.mono HB7.out.size))
    have HS8 := Lib.hid hb.size
    have Kd_8 := Lib.hid (blk_below Kd_7.out hb)
    have Kw_8 := Lib.hid (blk_below Kw_7.out hb)
    have Kx_8 := Lib.hid (blk_below Kx_7.out hb)
    have Ot_8 := Lib.hid (Ot_7.out.below hb)
    have Oti_8 := Lib.hid (Oti_7.out.below hb)
    have Ow_8 := Lib.hid (Ow_7.out.below hb)
    have Owo_8 := Lib.hid (Owo_7.out.below hb)
    have Ox_8 := Lib.hid (Ox_7.out.below hb)
    clear Kd_7 Kw_7 Kx_7 Ot_7 Oti_7 Ow_7 Owo_7 Ox_7
    have Rxi := Lib.hid (h5.range _ _ _ _)
    have Oxi_8 := Lib.hid h5
    clear hb h5
    have cx0 := (cells_of_heap Kx_8.out 0 (by simp)).1
    have cx1 := (cells_of_heap Kx_8.out 1 (by simp)).1
    have cx2 := (cells_of_heap Kx_8.out 2 (by simp)).1
    have cx3 := (cells_of_heap Kx_8.out 3 (by simp)).1
    have cx4 := (cells_of_heap Kx_8.out 4 (by simp)).1
    have cx5 := (cells_of_heap Kx_8.out 5 (by simp)).1
    go_wp2_with fail
    refine (implRun_law k t n s l _ zs _ _ xs _ _ b _ HRR.out hl (owC_rd Ox_8.out) hlx (owC_rd Oxi_8.out)).mono ?_
    rintro e w9 ⟨a6, c6, f6, a6', c6', f6', rfl, h6, h6', hd6, hb⟩
    clear cx0 cx1 cx2 cx3 cx4 cx5
    have HB9 := Lib.hid (HB8.out.trans (hb.mono HB8.out.size))
    have HS9 := Lib.hid hb.size
    have Kd_9 := Lib.hid (blk_below Kd_8.out hb)
    have Kw_9 := Lib.hid (blk_below Kw_8.out hb)
    have Kx_9 := Lib.hid (blk_below Kx_8.out hb)
    have Ot_9 := Lib.hid (Ot_8.out.below hb)
    have Oti_9 := Lib.hid (Oti_8.out.below hb)
    have Ow_9 := Lib.hid (Ow_8.out.below hb)
    have Owo_9 := Lib.hid (Owo_8.out.below hb)
    have Ox_9 := Lib.hid (Ox_8.out.below hb)
    have Oxi_9 := Lib.hid (Oxi_8.out.below hb)
    clear Kd_8 Kw_8 Kx_8 Ot_8 Oti_8 Ow_8 Owo_8 Ox_8 Oxi_8
    have Rg := Lib.hid (h6.range _ _ _ _)
    have Og_9 := Lib.hid h6
    have Rgo := Lib.hid (h6'.range _ _ _ _)
    have Ogo_9 := Lib.hid h6'
    clear hb h6 h6'
    have HD6 := Lib.hid hd6
    clear hd6
    go_upto_region 11 with (fail)
    obtain ⟨w10, hw⟩ : ∃ x, x = w9.alloc (.cells #[.int .i64 rk, .int .i64 rt, .int .i64 rn, .int .i64 rs, .int .i64 rl, .slice a6 rz.length c6] 26) := ⟨_, rfl⟩
    have hb : Below w9.heap.size w9 w10 := by rw [hw]; exact below_alloc1 _ _
    have hk : w10.heap[w9.heap.size]? = some (.cells #[.int .i64 rk, .int .i64 rt, .int .i64 rn, .int .i64 rs, .int .i64 rl, .slice a6 rz.length c6] 26 (0, 0)) := by rw [hw]; exact heap_alloc_new _ _
    rw [← hw]
    have HB10 := Lib.hid (HB9.out.trans (hb.mono HB9.out.size))
    have HS10 := Lib.hid (show w9.heap.size < w10.heap.size from (Array.getElem?_eq_some_iff.mp hk).1)
    have Kd_10 := Lib.hid (blk_below Kd_9.out hb)
    have Kw_10 := Lib.hid (blk_below Kw_9.out hb)
    have Kx_10 := Lib.hid (blk_below Kx_9.out hb)
    have Ot_10 := Lib.hid (Ot_9.out.below hb)
    have Oti_10 := Lib.hid (Oti_9.out.below hb)
    have Ow_10 := Lib.hid (Ow_9.out.below hb)
    have Owo_10 := Lib.hid (Owo_9.out.below hb)
    have Ox_10 := Lib.hid (Ox_9.out.below hb)
    have Oxi_10 := Lib.hid (Oxi_9.out.below hb)
    have Og_10 := Lib.hid (Og_9.out.below hb)
    have Ogo_10 := Lib.hid (Ogo_9.out.below hb)
    clear Kd_9 Kw_9 Kx_9 Ot_9 Oti_9 Ow_9 Owo_9 Ox_9 Oxi_9 Og_9 Ogo_9
    have Kg_10 := Lib.hid hk
    clear hb hk hw
    have cg0 := (cells_of_heap Kg_10.out 0 (by simp)).1
    have cg1 := (cells_of_heap Kg_10.out 1 (by simp)).1
    have cg2 := (cells_of_heap Kg_10.out 2 (by simp)).1
    have cg3 := (cells_of_heap Kg_10.out 3 (by simp)).1
    have cg4 := (cells_of_heap Kg_10.out 4 (by simp)).1
    have cg5 := (cells_of_heap Kg_10.out 5 (by simp)).1
    have cw0 := (cells_of_heap Kw_10.out 0 (by simp)).1
    have cw1 := (cells_of_heap Kw_10.out 1 (by simp)).1
    have cw2 := (cells_of_heap Kw_10.out 2 (by simp)).1
    have cw3 := (cells_of_heap Kw_10.out 3 (by simp)).1
    have cw4 := (cells_of_heap Kw_10.out 4 (by simp)).1
    have cw5 := (cells_of_heap Kw_10.out 5 (by simp)).1
    go_wp2_with fail
    refine (eqDebouncer_same rk rt rn rs rl _ _ rz _ (by omega) (owC_rd Og_10.out) (owC_rd Ow_10.out)).mono ?_
    rintro e w11 ⟨rfl, hb⟩
    clear cg0 cg1 cg2 cg3 cg4 cg5 cw0 cw1 cw2 cw3 cw4 cw5
    have HB11 := Lib.hid (HB10.out.trans (hb.mono HB10.out.size))
    have HS11 := Lib.hid hb.size
    have Kd_11 := Lib.hid (blk_below Kd_10.out hb)
    have Kw_11 := Lib.hid (blk_below Kw_10.out hb)
    have Kx_11 := Lib.hid (blk_below Kx_10.out hb)
    have Kg_11 := Lib.hid (blk_below Kg_10.out hb)
    have Ot_11 := Lib.hid (Ot_10.out.below hb)
    have Oti_11 := Lib.hid (Oti_10.out.below hb)
    have Ow_11 := Lib.hid (Ow_10.out.below hb)
    have Owo_11 := Lib.hid (Owo_10.out.below hb)
    have Ox_11 := Lib.hid (Ox_10.out.below hb)
    have Oxi_11 := Lib.hid (Oxi_10.out.below hb)
    have Og_11 := Lib.hid (Og_10.out.below hb)
    have Ogo_11 := Lib.hid (Ogo_10.out.below hb)
    clear Kd_10 Kw_10 Kx_10 Kg_10 Ot_10 Oti_10 Ow_10 Owo_10 Ox_10 Oxi_10 Og_10 Ogo_10
    clear hb
    go_wp2_with fail
    refine (below_post (eqIntS_same _ _ ro _ (by omega) (owC_rd Ogo_11.out) (owC_rd Owo_11.out))).mono ?_
    rintro e w12 ⟨rfl, hb⟩
    have HB12 := Lib.hid (HB11.out.trans (hb.mono HB11.out.size))
    have HS12 := Lib.hid hb.size
    have Kd_12 := Lib.hid (blk_below Kd_11.out hb)
    have Kw_12 := Lib.hid (blk_below Kw_11.out hb)
    have Kx_12 := Lib.hid (blk_below Kx_11.out hb)
    have Kg_12 := Lib.hid (blk_below Kg_11.out hb)
    have Ot_12 := Lib.hid (Ot_11.out.below hb)
    have Oti_12 := Lib.hid (Oti_11.out.below hb)
    have Ow_12 := Lib.hid (Ow_11.out.below hb)
    have Owo_12 := Lib.hid (Owo_11.out.below hb)
    have Ox_12 := Lib.hid (Ox_11.out.below hb)
    have Oxi_12 := Lib.hid (Oxi_11.out.below hb)
    have Og_12 := Lib.hid (Og_11.out.below hb)
    have Ogo_12 := Lib.hid (Ogo_11.out.below hb)
    clear Kd_11 Kw_11 Kx_11 Kg_11 Ot_11 Oti_11 Ow_11 Owo_11 Ox_11 Oxi_11 Og_11 Ogo_11
    clear hb
    go_upto_region 13 with (fail)
    go_cut [67] (fun sd wx => sd = .bool false ∧ Below w12.heap.size w12 wx)
    case first =>
      have cd0 := (cells_of_heap Kd_12.out 0 (by simp)).1
      have cd1 := (cells_of_heap Kd_12.out 1 (by simp)).1
      have cd2 := (cells_of_heap Kd_12.out 2 (by simp)).1
      have cd3 := (cells_of_heap Kd_12.out 3 (by simp)).1
      have cd4 := (cells_of_heap Kd_12.out 4 (by simp)).1
      have cd5 := (cells_of_heap Kd_12.out 5 (by simp)).1
      have cx0 := (cells_of_heap Kx_12.out 0 (by simp)).1
      have cx1 := (cells_of_heap Kx_12.out 1 (by simp)).1
      have cx2 := (cells_of_heap Kx_12.out 2 (by simp)).1
      have cx3 := (cells_of_heap Kx_12.out 3 (by simp)).1
      have cx4 := (cells_of_heap Kx_12.out 4 (by simp)).1
      have cx5 := (cells_of_heap Kx_12.out 5 (by simp)).1
      have ld : w.heap.size < w12.heap.size := (Array.getElem?_eq_some_iff.mp Kd_12.out).1
      have lx : w6.heap.size < w12.heap.size := (Array.getElem?_eq_some_iff.mp Kx_12.out).1
      go_region_held3 (fun w' => w'.cell? ⟨w.heap.size, 0, none⟩ = some (.int .i64 k) ∧ w'.cell? ⟨w.heap.size, 1, none⟩ = some (.int .i64 t) ∧ w'.cell? ⟨w.heap.size, 2, none⟩ = some (.int .i64 n) ∧ w'.cell? ⟨w.heap.size, 3, none⟩ = some (.int .i64 s) ∧ w'.cell? ⟨w.heap.size, 4, none⟩ = some (.int .i64 l) ∧ w'.cell? ⟨w.heap.size, 5, none⟩ = some (.slice a zs.length cap) ∧ w'.cell? ⟨w6.heap.size, 0, none⟩ = some (.int .i64 k) ∧ w'.cell? ⟨w6.heap.size, 1, none⟩ = some (.int .i64 t) ∧ w'.cell? ⟨w6.heap.size, 2, none⟩ = some (.int .i64 n) ∧ w'.cell? ⟨w6.heap.size, 3, none⟩ = some (.int .i64 s) ∧ w'.cell? ⟨w6.heap.size, 4, none⟩ = some (.int .i64 l) ∧ w'.cell? ⟨w6.heap.size, 5, none⟩ = some (.slice a4 zs.length c4)) (first | go_keep)
        (first | (go_at_call 24; refine (toDebouncer_law k t n s l _ zs _ hl (HR.out.below (by first | exact HB12.out | exact HB12.out.drew | exact HB12.out.drew.drew))).mono ?_; rintro e v1 ⟨a7, c7, f7, rfl, hy, hb1⟩; have hbr : Below w12.heap.size w12 v1 := (by first | exact hb1 | exact ((Below.refl _ _).drew).trans hb1 | exact ((Below.refl _ _).drew.drew).trans hb1); have kcd0 := (hbr.cell (p := ⟨w.heap.size, 0, none⟩) ld).trans cd0; have kcd1 := (hbr.cell (p := ⟨w.heap.size, 1, none⟩) ld).trans cd1; have kcd2 := (hbr.cell (p := ⟨w.heap.size, 2, none⟩) ld).trans cd2; have kcd3 := (hbr.cell (p := ⟨w.heap.size, 3, none⟩) ld).trans cd3; have kcd4 := (hbr.cell (p := ⟨w.heap.size, 4, none⟩) ld).trans cd4; have kcd5 := (hbr.cell (p := ⟨w.heap.size, 5, none⟩) ld).trans cd5; have kcx0 := (hbr.cell (p := ⟨w6.heap.size, 0, none⟩) lx).trans cx0; have kcx1 := (hbr.cell (p := ⟨w6.heap.size, 1, none⟩) lx).trans cx1; have kcx2 := (hbr.cell (p := ⟨w6.heap.size, 2, none⟩) lx).trans cx2; have kcx3 := (hbr.cell (p := ⟨w6.heap.size, 3, none⟩) lx).trans cx3; have kcx4 := (hbr.cell (p := ⟨w6.heap.size, 4, none⟩) lx).trans cx4; have kcx5 := (hbr.cell (p := ⟨w6.heap.size, 5, none⟩) lx).trans cx5; have HBR := Lib.hid hbr; have HY := Lib.hid hy; clear hbr hb1 hy) | (go_at_call 25; refine (eqDebouncer_same k t n s l _ _ zs _ (by omega) ((owC_rd Ox_12.out).below (by first | exact HBR.out | exact HBR.out.drew | exact HBR.out.drew.drew)) ((owC_rd HY.out).below (by first | exact Below.refl _ _ | exact (Below.refl _ _).drew | exact (Below.refl _ _).drew.drew))).mono ?_; rintro e v2 ⟨rfl, hb2⟩; have hbr : Below w12.heap.size w12 v2 := (by first | exact HBR.out.trans (hb2.mono HBR.out.size) | exact HBR.out.trans (((Below.refl _ _).drew.trans hb2).mono HBR.out.size) | exact HBR.out.trans (((Below.refl _ _).drew.drew.trans hb2).mono HBR.out.size)); have kcd0 := (hbr.cell (p := ⟨w.heap.size, 0, none⟩) ld).trans cd0; have kcd1 := (hbr.cell (p := ⟨w.heap.size, 1, none⟩) ld).trans cd1; have kcd2 := (hbr.cell (p := ⟨w.heap.size, 2, none⟩) ld).trans cd2; have kcd3 := (hbr.cell (p := ⟨w.heap.size, 3, none⟩) ld).trans cd3; have kcd4 := (hbr.cell (p := ⟨w.heap.size, 4, none⟩) ld).trans cd4; have kcd5 := (hbr.cell (p := ⟨w.heap.size, 5, none⟩) ld).trans cd5; have kcx0 := (hbr.cell (p := ⟨w6.heap.size, 0, none⟩) lx).trans cx0; have kcx1 := (hbr.cell (p := ⟨w6.heap.size, 1, none⟩) lx).trans cx1; have kcx2 := (hbr.cell (p := ⟨w6.heap.size, 2, none⟩) lx).trans cx2; have kcx3 := (hbr.cell (p := ⟨w6.heap.size, 3, none⟩) lx).trans cx3; have kcx4 := (hbr.cell (p := ⟨w6.heap.size, 4, none⟩) lx).trans cx4; have kcx5 := (hbr.cell (p := ⟨w6.heap.size, 5, none⟩) lx).trans cx5; have HB2 := Lib.hid hbr; clear hbr hb2))
      all_goals
        go_wp2
        go_meet
        exact ⟨rfl, by first | exact HB2.out | exact HB2.out.drew⟩
    case rest =>
      obtain ⟨rfl, hb⟩ := hcut
      obtain ⟨w13, hw⟩ : ∃ x, x = wc := ⟨_, rfl⟩
      rw [← hw] at hb ⊢
      clear hw
      have HB13 := Lib.hid (HB12.out.trans (hb.mono HB12.out.size))
      have HS13 := Lib.hid hb.size
      have Kd_13 := Lib.hid (blk_below Kd_12.out hb)
      have Kw_13 := Lib.hid (blk_below Kw_12.out hb)
      have Kx_13 := Lib.hid (blk_below Kx_12.out hb)
      have Kg_13 := Lib.hid (blk_below Kg_12.out hb)
      have Ot_13 := Lib.hid (Ot_12.out.below hb)
      have Oti_13 := Lib.hid (Oti_12.out.below hb)
      have Ow_13 := Lib.hid (Ow_12.out.below hb)
      have Owo_13 := Lib.hid (Owo_12.out.below hb)
      have Ox_13 := Lib.hid (Ox_12.out.below hb)
      have Oxi_13 := Lib.hid (Oxi_12.out.below hb)
      have Og_13 := Lib.hid (Og_12.out.below hb)
      have Ogo_13 := Lib.hid (Ogo_12.out.below hb)
      clear Kd_12 Kw_12 Kx_12 Kg_12 Ot_12 Oti_12 Ow_12 Owo_12 Ox_12 Oxi_12 Og_12 Ogo_12
      clear hb
      go_wp2_with fail
      refine (toIntS_law _ xs _ hlx (HX.out.below HB13.out)).mono ?_
      rintro e w14 ⟨a8, c8, f8, rfl, h8, hb⟩
      have HB14 := Lib.hid (HB13.out.trans (hb.mono HB13.out.size))
      have HS14 := Lib.hid hb.size
      have Kd_14 := Lib.hid (blk_below Kd_13.out hb)
      have Kw_14 := Lib.hid (blk_below Kw_13.out hb)
      have Kx_14 := Lib.hid (blk_below Kx_13.out hb)
      have Kg_14 := Lib.hid (blk_below Kg_13.out hb)
      have Ot_14 := Lib.hid (Ot_13.out.below hb)
      have Oti_14 := Lib.hid (Oti_13.out.below hb)
      have Ow_14 := Lib.hid (Ow_13.out.below hb)
      have Owo_14 := Lib.hid (Owo_13.out.below hb)
      have Ox_14 := Lib.hid (Ox_13.out.below hb)
      have Oxi_14 := Lib.hid (Oxi_13.out.below hb)
      have Og_14 := Lib.hid (Og_13.out.below hb)
      have Ogo_14 := Lib.hid (Ogo_13.out.below hb)
      clear Kd_13 Kw_13 Kx_13 Kg_13 Ot_13 Oti_13 Ow_13 Owo_13 Ox_13 Oxi_13 Og_13 Ogo_13
      have Ryi := Lib.hid (h8.range _ _ _ _)
      have Oyi_14 := Lib.hid h8
      clear hb h8
      go_wp2_with fail
      refine (below_post (eqIntS_same _ _ xs _ (by omega) (owC_rd Oxi_14.out) (owC_rd Oyi_14.out))).mono ?_
      rintro e w15 ⟨rfl, hb⟩
      have HB15 := Lib.hid (HB14.out.trans (hb.mono HB14.out.size))
      have HS15 := Lib.hid hb.size
      have Kd_15 := Lib.hid (blk_below Kd_14.out hb)
      have Kw_15 := Lib.hid (blk_below Kw_14.out hb)
      have Kx_15 := Lib.hid (blk_below Kx_14.out hb)
      have Kg_15 := Lib.hid (blk_below Kg_14.out hb)
      have Ot_15 := Lib.hid (Ot_14.out.below hb)
      have Oti_15 := Lib.hid (Oti_14.out.below hb)
      have Ow_15 := Lib.hid (Ow_14.out.below hb)
      have Owo_15 := Lib.hid (Owo_14.out.below hb)
      have Ox_15 := Lib.hid (Ox_14.out.below hb)
      have Oxi_15 := Lib.hid (Oxi_14.out.below hb)
      have Og_15 := Lib.hid (Og_14.out.below hb)
      have Ogo_15 := Lib.hid (Ogo_14.out.below hb)
      have Oyi_15 := Lib.hid (Oyi_14.out.below hb)
      clear Kd_14 Kw_14 Kx_14 Kg_14 Ot_14 Oti_14 Ow_14 Owo_14 Ox_14 Oxi_14 Og_14 Ogo_14 Oyi_14
      clear hb
      have cx0 := (cells_of_heap Kx_15.out 0 (by simp)).1
      have cx1 := (cells_of_heap Kx_15.out 1 (by simp)).1
      have cx2 := (cells_of_heap Kx_15.out 2 (by simp)).1
      have cx3 := (cells_of_heap Kx_15.out 3 (by simp)).1
      have cx4 := (cells_of_heap Kx_15.out 4 (by simp)).1
      have cx5 := (cells_of_heap Kx_15.out 5 (by simp)).1
      go_wp2_with fail
      refine (markDebouncer_own _ k t n s l _ zs _ 1 _ (by omega) (by omega) (by omega) Ox_15.out).mono ?_
      rintro e w16 ⟨rfl, ho, ht⟩
      clear cx0 cx1 cx2 cx3 cx4 cx5
      have HB16 := Lib.hid (HB15.out.trans (ht.below (fun b hb => by have := Rx.out b hb; have := HB5.out.size; omega) HB15.out.size))
      have HS16 := Lib.hid ht.size
      have Kd_16 := Lib.hid (blk_turn Kd_15.out ht (fun hm => by have := Rx.out _ hm; have := HS1.out; have := HS2.out; have := HS3.out; have := HS4.out; have := HS5.out; have := SZ0.out; omega))
      have Kw_16 := Lib.hid (blk_turn Kw_15.out ht (fun hm => by have := Rx.out _ hm; have := HS5.out; have := SZ0.out; omega))
      have Kx_16 := Lib.hid (blk_turn Kx_15.out ht (fun hm => by have := Rx.out _ hm; have := SZ0.out; omega))
      have Kg_16 := Lib.hid (blk_turn Kg_15.out ht (fun hm => by have := Rx.out _ hm; have := HS7.out; have := HS8.out; have := HS9.out; have := SZ0.out; omega))
      have Ot_16 := Lib.hid (Ot_15.out.turn ht (fun b hb hb' => by have := Rx.out b hb'; have := Rt.out b hb; have := HS3.out; have := HS4.out; have := HS5.out; have := SZ0.out; omega))
      have Oti_16 := Lib.hid (Oti_15.out.turn ht (fun b hb hb' => by have := Rx.out b hb'; have := Rti.out b hb; have := HS4.out; have := HS5.out; have := SZ0.out; omega))
      have Ow_16 := Lib.hid (Ow_15.out.turn ht (fun b hb hb' => by have := Rx.out b hb'; have := Rw.out b hb; have := HS5.out; have := SZ0.out; omega))
      have Owo_16 := Lib.hid (Owo_15.out.turn ht (fun b hb hb' => by have := Rx.out b hb'; have := Rwo.out b hb; have := HS5.out; have := SZ0.out; omega))
      have Oxi_16 := Lib.hid (Oxi_15.out.turn ht (fun b hb hb' => by have := Rx.out b hb'; have := Rxi.out b hb; have := HS7.out; have := SZ0.out; omega))
      have Og_16 := Lib.hid (Og_15.out.turn ht (fun b hb hb' => by have := Rx.out b hb'; have := Rg.out b hb; have := HS7.out; have := HS8.out; have := SZ0.out; omega))
      have Ogo_16 := Lib.hid (Ogo_15.out.turn ht (fun b hb hb' => by have := Rx.out b hb'; have := Rgo.out b hb; have := HS7.out; have := HS8.out; have := SZ0.out; omega))
      have Oyi_16 := Lib.hid (Oyi_15.out.turn ht (fun b hb hb' => by have := Rx.out b hb'; have := Ryi.out b hb; have := HS7.out; have := HS8.out; have := HS9.out; have := HS10.out; have := HS11.out; have := HS12.out; have := HS13.out; have := SZ0.out; omega))
      have Ox_16 := Lib.hid ho
      clear ho ht Kd_15 Kw_15 Kx_15 Kg_15 Ot_15 Oti_15 Ow_15 Owo_15 Ox_15 Oxi_15 Og_15 Ogo_15 Oyi_15
      go_wp2_with fail
      refine (markIntS_own _ _ xs _ (1 + zs.length) _ (by omega) (by omega) (by omega) Oxi_16.out).mono ?_
      rintro e w17 ⟨rfl, ho, ht⟩
      have HB17 := Lib.hid (HB16.out.trans (ht.below (fun b hb => by have := Rxi.out b hb; have := HB7.out.size; omega) HB16.out.size))
      have HS17 := Lib.hid ht.size
      have Kd_17 := Lib.hid (blk_turn Kd_16.out ht (fun hm => by have := Rxi.out _ hm; have := HS1.out; have := HS2.out; have := HS3.out; have := HS4.out; have := HS5.out; have := HS6.out; have := HS7.out; have := SZ0.out; omega))
      have Kw_17 := Lib.hid (blk_turn Kw_16.out ht (fun hm => by have := Rxi.out _ hm; have := HS5.out; have := HS6.out; have := HS7.out; have := SZ0.out; omega))
      have Kx_17 := Lib.hid (blk_turn Kx_16.out ht (fun hm => by have := Rxi.out _ hm; have := HS7.out; have := SZ0.out; omega))
      have Kg_17 := Lib.hid (blk_turn Kg_16.out ht (fun hm => by have := Rxi.out _ hm; have := HS9.out; have := SZ0.out; omega))
      have Ot_17 := Lib.hid (Ot_16.out.turn ht (fun b hb hb' => by have := Rxi.out b hb'; have := Rt.out b hb; have := HS3.out; have := HS4.out; have := HS5.out; have := HS6.out; have := HS7.out; have := SZ0.out; omega))
      have Oti_17 := Lib.hid (Oti_16.out.turn ht (fun b hb hb' => by have := Rxi.out b hb'; have := Rti.out b hb; have := HS4.out; have := HS5.out; have := HS6.out; have := HS7.out; have := SZ0.out; omega))
      have Ow_17 := Lib.hid (Ow_16.out.turn ht (fun b hb hb' => by have := Rxi.out b hb'; have := Rw.out b hb; have := HS5.out; have := HS6.out; have := HS7.out; have := SZ0.out; omega))
      have Owo_17 := Lib.hid (Owo_16.out.turn ht (fun b hb hb' => by have := Rxi.out b hb'; have := Rwo.out b hb; have := HS5.out; have := HS6.out; have := HS7.out; have := SZ0.out; omega))
      have Ox_17 := Lib.hid (Ox_16.out.turn ht (fun b hb hb' => by have := Rxi.out b hb'; have := Rx.out b hb; have := HS7.out; have := SZ0.out; omega))
      have Og_17 := Lib.hid (Og_16.out.turn ht (fun b hb hb' => by have := Rxi.out b hb'; have := Rg.out b hb; have := SZ0.out; omega))
      have Ogo_17 := Lib.hid (Ogo_16.out.turn ht (fun b hb hb' => by have := Rxi.out b hb'; have := Rgo.out b hb; have := SZ0.out; omega))
      have Oyi_17 := Lib.hid (Oyi_16.out.turn ht (fun b hb hb' => by have := Rxi.out b hb'; have := Ryi.out b hb; have := HS9.out; have := HS10.out; have := HS11.out; have := HS12.out; have := HS13.out; have := SZ0.out; omega))
      have Oxi_17 := Lib.hid ho
      clear ho ht Kd_16 Kw_16 Kx_16 Kg_16 Ot_16 Oti_16 Ow_16 Owo_16 Ox_16 Oxi_16 Og_16 Ogo_16 Oyi_16
      have cg0 := (cells_of_heap Kg_17.out 0 (by simp)).1
      have cg1 := (cells_of_heap Kg_17.out 1 (by simp)).1
      have cg2 := (cells_of_heap Kg_17.out 2 (by simp)).1
      have cg3 := (cells_of_heap Kg_17.out 3 (by simp)).1
      have cg4 := (cells_of_heap Kg_17.out 4 (by simp)).1
      have cg5 := (cells_of_heap Kg_17.out 5 (by simp)).1
      have cw0 := (cells_of_heap Kw_17.out 0 (by simp)).1
      have cw1 := (cells_of_heap Kw_17.out 1 (by simp)).1
      have cw2 := (cells_of_heap Kw_17.out 2 (by simp)).1
      have cw3 := (cells_of_heap Kw_17.out 3 (by simp)).1
      have cw4 := (cells_of_heap Kw_17.out 4 (by simp)).1
      have cw5 := (cells_of_heap Kw_17.out 5 (by simp)).1
      go_wp2_with fail
      refine (eqDebouncer_same rk rt rn rs rl _ _ rz _ (by omega) (owC_rd Og_17.out) (owC_rd Ow_17.out)).mono ?_
      rintro e w18 ⟨rfl, hb⟩
      clear cg0 cg1 cg2 cg3 cg4 cg5 cw0 cw1 cw2 cw3 cw4 cw5
      have HB18 := Lib.hid (HB17.out.trans (hb.mono HB17.out.size))
      have HS18 := Lib.hid hb.size
      have Kd_18 := Lib.hid (blk_below Kd_17.out hb)
      have Kw_18 := Lib.hid (blk_below Kw_17.out hb)
      have Kx_18 := Lib.hid (blk_below Kx_17.out hb)
      have Kg_18 := Lib.hid (blk_below Kg_17.out hb)
      have Ot_18 := Lib.hid (Ot_17.out.below hb)
      have Oti_18 := Lib.hid (Oti_17.out.below hb)
      have Ow_18 := Lib.hid (Ow_17.out.below hb)
      have Owo_18 := Lib.hid (Owo_17.out.below hb)
      have Ox_18 := Lib.hid (Ox_17.out.below hb)
      have Oxi_18 := Lib.hid (Oxi_17.out.below hb)
      have Og_18 := Lib.hid (Og_17.out.below hb)
      have Ogo_18 := Lib.hid (Ogo_17.out.below hb)
      have Oyi_18 := Lib.hid (Oyi_17.out.below hb)
      clear Kd_17 Kw_17 Kx_17 Kg_17 Ot_17 Oti_17 Ow_17 Owo_17 Ox_17 Oxi_17 Og_17 Ogo_17 Oyi_17
      clear hb
      go_wp2_with fail
      refine (below_post (eqIntS_same _ _ ro _ (by omega) (owC_rd Ogo_18.out) (owC_rd Owo_18.out))).mono ?_
      rintro e w19 ⟨rfl, hb⟩
      have HB19 := Lib.hid (HB18.out.trans (hb.mono HB18.out.size))
      have HS19 := Lib.hid hb.size
      have Kd_19 := Lib.hid (blk_below Kd_18.out hb)
      have Kw_19 := Lib.hid (blk_below Kw_18.out hb)
      have Kx_19 := Lib.hid (blk_below Kx_18.out hb)
      have Kg_19 := Lib.hid (blk_below Kg_18.out hb)
      have Ot_19 := Lib.hid (Ot_18.out.below hb)
      have Oti_19 := Lib.hid (Oti_18.out.below hb)
      have Ow_19 := Lib.hid (Ow_18.out.below hb)
      have Owo_19 := Lib.hid (Owo_18.out.below hb)
      have Ox_19 := Lib.hid (Ox_18.out.below hb)
      have Oxi_19 := Lib.hid (Oxi_18.out.below hb)
      have Og_19 := Lib.hid (Og_18.out.below hb)
      have Ogo_19 := Lib.hid (Ogo_18.out.below hb)
      have Oyi_19 := Lib.hid (Oyi_18.out.below hb)
      clear Kd_18 Kw_18 Kx_18 Kg_18 Ot_18 Oti_18 Ow_18 Owo_18 Ox_18 Oxi_18 Og_18 Ogo_18 Oyi_18
      clear hb
      have cg0 := (cells_of_heap Kg_19.out 0 (by simp)).1
      have cg1 := (cells_of_heap Kg_19.out 1 (by simp)).1
      have cg2 := (cells_of_heap Kg_19.out 2 (by simp)).1
      have cg3 := (cells_of_heap Kg_19.out 3 (by simp)).1
      have cg4 := (cells_of_heap Kg_19.out 4 (by simp)).1
      have cg5 := (cells_of_heap Kg_19.out 5 (by simp)).1
      go_wp2_with fail
      refine (markDebouncer_own _ rk rt rn rs rl _ rz _ 1 _ (by omega) (by omega) (by omega) Og_19.out).mono ?_
      rintro e w20 ⟨rfl, ho, ht⟩
      clear cg0 cg1 cg2 cg3 cg4 cg5
      have HB20 := Lib.hid (HB19.out.trans (ht.below (fun b hb => by have := Rg.out b hb; have := HB8.out.size; omega) HB19.out.size))
      have HS20 := Lib.hid ht.size
      have Kd_20 := Lib.hid (blk_turn Kd_19.out ht (fun hm => by have := Rg.out _ hm; have := HS1.out; have := HS2.out; have := HS3.out; have := HS4.out; have := HS5.out; have := HS6.out; have := HS7.out; have := HS8.out; have := SZ0.out; omega))
      have Kw_20 := Lib.hid (blk_turn Kw_19.out ht (fun hm => by have := Rg.out _ hm; have := HS5.out; have := HS6.out; have := HS7.out; have := HS8.out; have := SZ0.out; omega))
      have Kx_20 := Lib.hid (blk_turn Kx_19.out ht (fun hm => by have := Rg.out _ hm; have := HS7.out; have := HS8.out; have := SZ0.out; omega))
      have Kg_20 := Lib.hid (blk_turn Kg_19.out ht (fun hm => by have := Rg.out _ hm; have := SZ0.out; omega))
      have Ot_20 := Lib.hid (Ot_19.out.turn ht (fun b hb hb' => by have := Rg.out b hb'; have := Rt.out b hb; have := HS3.out; have := HS4.out; have := HS5.out; have := HS6.out; have := HS7.out; have := HS8.out; have := SZ0.out; omega))
      have Oti_20 := Lib.hid (Oti_19.out.turn ht (fun b hb hb' => by have := Rg.out b hb'; have := Rti.out b hb; have := HS4.out; have := HS5.out; have := HS6.out; have := HS7.out; have := HS8.out; have := SZ0.out; omega))
      have Ow_20 := Lib.hid (Ow_19.out.turn ht (fun b hb hb' => by have := Rg.out b hb'; have := Rw.out b hb; have := HS5.out; have := HS6.out; have := HS7.out; have := HS8.out; have := SZ0.out; omega))
      have Owo_20 := Lib.hid (Owo_19.out.turn ht (fun b hb hb' => by have := Rg.out b hb'; have := Rwo.out b hb; have := HS5.out; have := HS6.out; have := HS7.out; have := HS8.out; have := SZ0.out; omega))
      have Ox_20 := Lib.hid (Ox_19.out.turn ht (fun b hb hb' => by have := Rg.out b hb'; have := Rx.out b hb; have := HS7.out; have := HS8.out; have := SZ0.out; omega))
      have Oxi_20 := Lib.hid (Oxi_19.out.turn ht (fun b hb hb' => by have := Rg.out b hb'; have := Rxi.out b hb; have := SZ0.out; omega))
      have Ogo_20 := Lib.hid (Ogo_19.out.turn ht (fun b hb hb' => HD6.out b hb' hb))
      have Oyi_20 := Lib.hid (Oyi_19.out.turn ht (fun b hb hb' => by have := Rg.out b hb'; have := Ryi.out b hb; have := HS10.out; have := HS11.out; have := HS12.out; have := HS13.out; have := SZ0.out; omega))
      have Og_20 := Lib.hid ho
      clear ho ht Kd_19 Kw_19 Kx_19 Kg_19 Ot_19 Oti_19 Ow_19 Owo_19 Ox_19 Oxi_19 Og_19 Ogo_19 Oyi_19
      go_wp2_with fail
      refine (markIntS_own _ _ ro _ (1 + rz.length) _ (by omega) (by omega) (by omega) Ogo_20.out).mono ?_
      rintro e w21 ⟨rfl, ho, ht⟩
      have HB21 := Lib.hid (HB20.out.trans (ht.below (fun b hb => by have := Rgo.out b hb; have := HB8.out.size; omega) HB20.out.size))
      have HS21 := Lib.hid ht.size
      have Kd_21 := Lib.hid (blk_turn Kd_20.out ht (fun hm => by have := Rgo.out _ hm; have := HS1.out; have := HS2.out; have := HS3.out; have := HS4.out; have := HS5.out; have := HS6.out; have := HS7.out; have := HS8.out; have := SZ0.out; omega))
      have Kw_21 := Lib.hid (blk_turn Kw_20.out ht (fun hm => by have := Rgo.out _ hm; have := HS5.out; have := HS6.out; have := HS7.out; have := HS8.out; have := SZ0.out; omega))
      have Kx_21 := Lib.hid (blk_turn Kx_20.out ht (fun hm => by have := Rgo.out _ hm; have := HS7.out; have := HS8.out; have := SZ0.out; omega))
      have Kg_21 := Lib.hid (blk_turn Kg_20.out ht (fun hm => by have := Rgo.out _ hm; have := SZ0.out; omega))
      have Ot_21 := Lib.hid (Ot_20.out.turn ht (fun b hb hb' => by have := Rgo.out b hb'; have := Rt.out b hb; have := HS3.out; have := HS4.out; have := HS5.out; have := HS6.out; have := HS7.out; have := HS8.out; have := SZ0.out; omega))
      have Oti_21 := Lib.hid (Oti_20.out.turn ht (fun b hb hb' => by have := Rgo.out b hb'; have := Rti.out b hb; have := HS4.out; have := HS5.out; have := HS6.out; have := HS7.out; have := HS8.out; have := SZ0.out; omega))
      have Ow_21 := Lib.hid (Ow_20.out.turn ht (fun b hb hb' => by have := Rgo.out b hb'; have := Rw.out b hb; have := HS5.out; have := HS6.out; have := HS7.out; have := HS8.out; have := SZ0.out; omega))
      have Owo_21 := Lib.hid (Owo_20.out.turn ht (fun b hb hb' => by have := Rgo.out b hb'; have := Rwo.out b hb; have := HS5.out; have := HS6.out; have := HS7.out; have := HS8.out; have := SZ0.out; omega))
      have Ox_21 := Lib.hid (Ox_20.out.turn ht (fun b hb hb' => by have := Rgo.out b hb'; have := Rx.out b hb; have := HS7.out; have := HS8.out; have := SZ0.out; omega))
      have Oxi_21 := Lib.hid (Oxi_20.out.turn ht (fun b hb hb' => by have := Rgo.out b hb'; have := Rxi.out b hb; have := SZ0.out; omega))
      have Og_21 := Lib.hid (Og_20.out.turn ht HD6.out)
      have Oyi_21 := Lib.hid (Oyi_20.out.turn ht (fun b hb hb' => by have := Rgo.out b hb'; have := Ryi.out b hb; have := HS10.out; have := HS11.out; have := HS12.out; have := HS13.out; have := SZ0.out; omega))
      have Ogo_21 := Lib.hid ho
      clear ho ht Kd_20 Kw_20 Kx_20 Kg_20 Ot_20 Oti_20 Ow_20 Owo_20 Ox_20 Oxi_20 Og_20 Ogo_20 Oyi_20
      have cg0 := (cells_of_heap Kg_21.out 0 (by simp)).1
      have cg1 := (cells_of_heap Kg_21.out 1 (by simp)).1
      have cg2 := (cells_of_heap Kg_21.out 2 (by simp)).1
      have cg3 := (cells_of_heap Kg_21.out 3 (by simp)).1
      have cg4 := (cells_of_heap Kg_21.out 4 (by simp)).1
      have cg5 := (cells_of_heap Kg_21.out 5 (by simp)).1
      go_wp2_with fail
      refine (heldDebouncer_any rk rt rn rs rl _ rz.length 1 _ hrz (by omega) (by omega) (owC_marks Og_21.out)).mono ?_
      rintro e w22 ⟨rfl, hb⟩
      clear cg0 cg1 cg2 cg3 cg4 cg5
      have HB22 := Lib.hid (HB21.out.trans (hb.mono HB21.out.size))
      have HS22 := Lib.hid hb.size
      have Kd_22 := Lib.hid (blk_below Kd_21.out hb)
      have Kw_22 := Lib.hid (blk_below Kw_21.out hb)
      have Kx_22 := Lib.hid (blk_below Kx_21.out hb)
      have Kg_22 := Lib.hid (blk_below Kg_21.out hb)
      have Ot_22 := Lib.hid (Ot_21.out.below hb)
      have Oti_22 := Lib.hid (Oti_21.out.below hb)
      have Ow_22 := Lib.hid (Ow_21.out.below hb)
      have Owo_22 := Lib.hid (Owo_21.out.below hb)
      have Ox_22 := Lib.hid (Ox_21.out.below hb)
      have Oxi_22 := Lib.hid (Oxi_21.out.below hb)
      have Og_22 := Lib.hid (Og_21.out.below hb)
      have Ogo_22 := Lib.hid (Ogo_21.out.below hb)
      have Oyi_22 := Lib.hid (Oyi_21.out.below hb)
      clear Kd_21 Kw_21 Kx_21 Kg_21 Ot_21 Oti_21 Ow_21 Owo_21 Ox_21 Oxi_21 Og_21 Ogo_21 Oyi_21
      clear hb
      go_wp2_with fail
      refine (heldIntS_any _ ro.length (1 + rz.length) _ hro (by omega) (by omega) (owC_marks Ogo_22.out)).mono ?_
      rintro e v0 ⟨rfl, rfl⟩
      have cd0 := (cells_of_heap Kd_22.out 0 (by simp)).1
      have cd1 := (cells_of_heap Kd_22.out 1 (by simp)).1
      have cd2 := (cells_of_heap Kd_22.out 2 (by simp)).1
      have cd3 := (cells_of_heap Kd_22.out 3 (by simp)).1
      have cd4 := (cells_of_heap Kd_22.out 4 (by simp)).1
      have cd5 := (cells_of_heap Kd_22.out 5 (by simp)).1
      go_wp2_with fail
      refine (toDebouncer_law k t n s l _ zs _ hl (HR.out.below HB22.out)).mono ?_
      rintro e w23 ⟨a9, c9, f9, rfl, h9, hb⟩
      clear cd0 cd1 cd2 cd3 cd4 cd5
      have HB23 := Lib.hid (HB22.out.trans (hb.mono HB22.out.size))
      have HS23 := Lib.hid hb.size
      have Kd_23 := Lib.hid (blk_below Kd_22.out hb)
      have Kw_23 := Lib.hid (blk_below Kw_22.out hb)
      have Kx_23 := Lib.hid (blk_below Kx_22.out hb)
      have Kg_23 := Lib.hid (blk_below Kg_22.out hb)
      have Ot_23 := Lib.hid (Ot_22.out.below hb)
      have Oti_23 := Lib.hid (Oti_22.out.below hb)
      have Ow_23 := Lib.hid (Ow_22.out.below hb)
      have Owo_23 := Lib.hid (Owo_22.out.below hb)
      have Ox_23 := Lib.hid (Ox_22.out.below hb)
      have Oxi_23 := Lib.hid (Oxi_22.out.below hb)
      have Og_23 := Lib.hid (Og_22.out.below hb)
      have Ogo_23 := Lib.hid (Ogo_22.out.below hb)
      have Oyi_23 := Lib.hid (Oyi_22.out.below hb)
      clear Kd_22 Kw_22 Kx_22 Kg_22 Ot_22 Oti_22 Ow_22 Owo_22 Ox_22 Oxi_22 Og_22 Ogo_22 Oyi_22
      have Ru := Lib.hid (h9.range _ _ _ _)
      have Ou_23 := Lib.hid h9
      clear hb h9
      go_wp2_with fail
      refine (toIntS_law _ xs _ hlx (HX.out.below HB23.out)).mono ?_
      rintro e w24 ⟨a10, c10, f10, rfl, h10, hb⟩
      have HB24 := Lib.hid (HB23.out.trans (hb.mono HB23.out.size))
      have HS24 := Lib.hid hb.size
      have Kd_24 := Lib.hid (blk_below Kd_23.out hb)
      have Kw_24 := Lib.hid (blk_below Kw_23.out hb)
      have Kx_24 := Lib.hid (blk_below Kx_23.out hb)
      have Kg_24 := Lib.hid (blk_below Kg_23.out hb)
      have Ot_24 := Lib.hid (Ot_23.out.below hb)
      have Oti_24 := Lib.hid (Oti_23.out.below hb)
      have Ow_24 := Lib.hid (Ow_23.out.below hb)
      have Owo_24 := Lib.hid (Owo_23.out.below hb)
      have Ox_24 := Lib.hid (Ox_23.out.below hb)
      have Oxi_24 := Lib.hid (Oxi_23.out.below hb)
      have Og_24 := Lib.hid (Og_23.out.below hb)
      have Ogo_24 := Lib.hid (Ogo_23.out.below hb)
      have Oyi_24 := Lib.hid (Oyi_23.out.below hb)
      have Ou_24 := Lib.hid (Ou_23.out.below hb)
      clear Kd_23 Kw_23 Kx_23 Kg_23 Ot_23 Oti_23 Ow_23 Owo_23 Ox_23 Oxi_23 Og_23 Ogo_23 Oyi_23 Ou_23
      have Rui := Lib.hid (h10.range _ _ _ _)
      have Oui_24 := Lib.hid h10
      clear hb h10
      go_wp2_with fail
      refine (implRun_law k t n s l _ zs _ _ xs _ _ b _ HRR.out hl (owC_rd Ou_24.out) hlx (owC_rd Oui_24.out)).mono ?_
      rintro e w25 ⟨a11, c11, f11, a11', c11', f11', rfl, h11, h11', hd11, hb⟩
      have HB25 := Lib.hid (HB24.out.trans (hb.mono HB24.out.size))
      have HS25 := Lib.hid hb.size
      have Kd_25 := Lib.hid (blk_below Kd_24.out hb)
      have Kw_25 := Lib.hid (blk_below Kw_24.out hb)
      have Kx_25 := Lib.hid (blk_below Kx_24.out hb)
      have Kg_25 := Lib.hid (blk_below Kg_24.out hb)
      have Ot_25 := Lib.hid (Ot_24.out.below hb)
      have Oti_25 := Lib.hid (Oti_24.out.below hb)
      have Ow_25 := Lib.hid (Ow_24.out.below hb)
      have Owo_25 := Lib.hid (Owo_24.out.below hb)
      have Ox_25 := Lib.hid (Ox_24.out.below hb)
      have Oxi_25 := Lib.hid (Oxi_24.out.below hb)
      have Og_25 := Lib.hid (Og_24.out.below hb)
      have Ogo_25 := Lib.hid (Ogo_24.out.below hb)
      have Oyi_25 := Lib.hid (Oyi_24.out.below hb)
      have Ou_25 := Lib.hid (Ou_24.out.below hb)
      have Oui_25 := Lib.hid (Oui_24.out.below hb)
      clear Kd_24 Kw_24 Kx_24 Kg_24 Ot_24 Oti_24 Ow_24 Owo_24 Ox_24 Oxi_24 Og_24 Ogo_24 Oyi_24 Ou_24 Oui_24
      have Rh := Lib.hid (h11.range _ _ _ _)
      have Oh_25 := Lib.hid h11
      have Rho := Lib.hid (h11'.range _ _ _ _)
      have Oho_25 := Lib.hid h11'
      clear hb h11 h11'
      have HD11 := Lib.hid hd11
      clear hd11
      go_upto_region 35 with (fail)
      obtain ⟨w26, hw⟩ : ∃ x, x = w25.alloc (.cells #[.int .i64 rk, .int .i64 rt, .int .i64 rn, .int .i64 rs, .int .i64 rl, .slice a11 rz.length c11] 26) := ⟨_, rfl⟩
      have hb : Below w25.heap.size w25 w26 := by rw [hw]; exact below_alloc1 _ _
      have hk : w26.heap[w25.heap.size]? = some (.cells #[.int .i64 rk, .int .i64 rt, .int .i64 rn, .int .i64 rs, .int .i64 rl, .slice a11 rz.length c11] 26 (0, 0)) := by rw [hw]; exact heap_alloc_new _ _
      rw [← hw]
      have HB26 := Lib.hid (HB25.out.trans (hb.mono HB25.out.size))
      have HS26 := Lib.hid (show w25.heap.size < w26.heap.size from (Array.getElem?_eq_some_iff.mp hk).1)
      have Kd_26 := Lib.hid (blk_below Kd_25.out hb)
      have Kw_26 := Lib.hid (blk_below Kw_25.out hb)
      have Kx_26 := Lib.hid (blk_below Kx_25.out hb)
      have Kg_26 := Lib.hid (blk_below Kg_25.out hb)
      have Ot_26 := Lib.hid (Ot_25.out.below hb)
      have Oti_26 := Lib.hid (Oti_25.out.below hb)
      have Ow_26 := Lib.hid (Ow_25.out.below hb)
      have Owo_26 := Lib.hid (Owo_25.out.below hb)
      have Ox_26 := Lib.hid (Ox_25.out.below hb)
      have Oxi_26 := Lib.hid (Oxi_25.out.below hb)
      have Og_26 := Lib.hid (Og_25.out.below hb)
      have Ogo_26 := Lib.hid (Ogo_25.out.below hb)
      have Oyi_26 := Lib.hid (Oyi_25.out.below hb)
      have Ou_26 := Lib.hid (Ou_25.out.below hb)
      have Oui_26 := Lib.hid (Oui_25.out.below hb)
      have Oh_26 := Lib.hid (Oh_25.out.below hb)
      have Oho_26 := Lib.hid (Oho_25.out.below hb)
      clear Kd_25 Kw_25 Kx_25 Kg_25 Ot_25 Oti_25 Ow_25 Owo_25 Ox_25 Oxi_25 Og_25 Ogo_25 Oyi_25 Ou_25 Oui_25 Oh_25 Oho_25
      have Kh_26 := Lib.hid hk
      clear hb hk hw
      have ch0 := (cells_of_heap Kh_26.out 0 (by simp)).1
      have ch1 := (cells_of_heap Kh_26.out 1 (by simp)).1
      have ch2 := (cells_of_heap Kh_26.out 2 (by simp)).1
      have ch3 := (cells_of_heap Kh_26.out 3 (by simp)).1
      have ch4 := (cells_of_heap Kh_26.out 4 (by simp)).1
      have ch5 := (cells_of_heap Kh_26.out 5 (by simp)).1
      have cw0 := (cells_of_heap Kw_26.out 0 (by simp)).1
      have cw1 := (cells_of_heap Kw_26.out 1 (by simp)).1
      have cw2 := (cells_of_heap Kw_26.out 2 (by simp)).1
      have cw3 := (cells_of_heap Kw_26.out 3 (by simp)).1
      have cw4 := (cells_of_heap Kw_26.out 4 (by simp)).1
      have cw5 := (cells_of_heap Kw_26.out 5 (by simp)).1
      go_wp2_with fail
      refine (eqDebouncer_same rk rt rn rs rl _ _ rz _ (by omega) (owC_rd Oh_26.out) (owC_rd Ow_26.out)).mono ?_
      rintro e w27 ⟨rfl, hb⟩
      clear ch0 ch1 ch2 ch3 ch4 ch5 cw0 cw1 cw2 cw3 cw4 cw5
      have HB27 := Lib.hid (HB26.out.trans (hb.mono HB26.out.size))
      have HS27 := Lib.hid hb.size
      have Kd_27 := Lib.hid (blk_below Kd_26.out hb)
      have Kw_27 := Lib.hid (blk_below Kw_26.out hb)
      have Kx_27 := Lib.hid (blk_below Kx_26.out hb)
      have Kg_27 := Lib.hid (blk_below Kg_26.out hb)
      have Kh_27 := Lib.hid (blk_below Kh_26.out hb)
      have Ot_27 := Lib.hid (Ot_26.out.below hb)
      have Oti_27 := Lib.hid (Oti_26.out.below hb)
      have Ow_27 := Lib.hid (Ow_26.out.below hb)
      have Owo_27 := Lib.hid (Owo_26.out.below hb)
      have Ox_27 := Lib.hid (Ox_26.out.below hb)
      have Oxi_27 := Lib.hid (Oxi_26.out.below hb)
      have Og_27 := Lib.hid (Og_26.out.below hb)
      have Ogo_27 := Lib.hid (Ogo_26.out.below hb)
      have Oyi_27 := Lib.hid (Oyi_26.out.below hb)
      have Ou_27 := Lib.hid (Ou_26.out.below hb)
      have Oui_27 := Lib.hid (Oui_26.out.below hb)
      have Oh_27 := Lib.hid (Oh_26.out.below hb)
      have Oho_27 := Lib.hid (Oho_26.out.below hb)
      clear Kd_26 Kw_26 Kx_26 Kg_26 Kh_26 Ot_26 Oti_26 Ow_26 Owo_26 Ox_26 Oxi_26 Og_26 Ogo_26 Oyi_26 Ou_26 Oui_26 Oh_26 Oho_26
      clear hb
      go_wp2_with fail
      refine (below_post (eqIntS_same _ _ ro _ (by omega) (owC_rd Oho_27.out) (owC_rd Owo_27.out))).mono ?_
      rintro e w28 ⟨rfl, hb⟩
      have HB28 := Lib.hid (HB27.out.trans (hb.mono HB27.out.size))
      have HS28 := Lib.hid hb.size
      have Kd_28 := Lib.hid (blk_below Kd_27.out hb)
      have Kw_28 := Lib.hid (blk_below Kw_27.out hb)
      have Kx_28 := Lib.hid (blk_below Kx_27.out hb)
      have Kg_28 := Lib.hid (blk_below Kg_27.out hb)
      have Kh_28 := Lib.hid (blk_below Kh_27.out hb)
      have Ot_28 := Lib.hid (Ot_27.out.below hb)
      have Oti_28 := Lib.hid (Oti_27.out.below hb)
      have Ow_28 := Lib.hid (Ow_27.out.below hb)
      have Owo_28 := Lib.hid (Owo_27.out.below hb)
      have Ox_28 := Lib.hid (Ox_27.out.below hb)
      have Oxi_28 := Lib.hid (Oxi_27.out.below hb)
      have Og_28 := Lib.hid (Og_27.out.below hb)
      have Ogo_28 := Lib.hid (Ogo_27.out.below hb)
      have Oyi_28 := Lib.hid (Oyi_27.out.below hb)
      have Ou_28 := Lib.hid (Ou_27.out.below hb)
      have Oui_28 := Lib.hid (Oui_27.out.below hb)
      have Oh_28 := Lib.hid (Oh_27.out.below hb)
      have Oho_28 := Lib.hid (Oho_27.out.below hb)
      clear Kd_27 Kw_27 Kx_27 Kg_27 Kh_27 Ot_27 Oti_27 Ow_27 Owo_27 Ox_27 Oxi_27 Og_27 Ogo_27 Oyi_27 Ou_27 Oui_27 Oh_27 Oho_27
      clear hb
      have cg0 := (cells_of_heap Kg_28.out 0 (by simp)).1
      have cg1 := (cells_of_heap Kg_28.out 1 (by simp)).1
      have cg2 := (cells_of_heap Kg_28.out 2 (by simp)).1
      have cg3 := (cells_of_heap Kg_28.out 3 (by simp)).1
      have cg4 := (cells_of_heap Kg_28.out 4 (by simp)).1
      have cg5 := (cells_of_heap Kg_28.out 5 (by simp)).1
      go_wp2_with fail
      refine (heldDebouncer_any rk rt rn rs rl _ rz.length 1 _ hrz (by omega) (by omega) (owC_marks Og_28.out)).mono ?_
      rintro e w29 ⟨rfl, hb⟩
      clear cg0 cg1 cg2 cg3 cg4 cg5
      have HB29 := Lib.hid (HB28.out.trans (hb.mono HB28.out.size))
      have HS29 := Lib.hid hb.size
      have Kd_29 := Lib.hid (blk_below Kd_28.out hb)
      have Kw_29 := Lib.hid (blk_below Kw_28.out hb)
      have Kx_29 := Lib.hid (blk_below Kx_28.out hb)
      have Kg_29 := Lib.hid (blk_below Kg_28.out hb)
      have Kh_29 := Lib.hid (blk_below Kh_28.out hb)
      have Ot_29 := Lib.hid (Ot_28.out.below hb)
      have Oti_29 := Lib.hid (Oti_28.out.below hb)
      have Ow_29 := Lib.hid (Ow_28.out.below hb)
      have Owo_29 := Lib.hid (Owo_28.out.below hb)
      have Ox_29 := Lib.hid (Ox_28.out.below hb)
      have Oxi_29 := Lib.hid (Oxi_28.out.below hb)
      have Og_29 := Lib.hid (Og_28.out.below hb)
      have Ogo_29 := Lib.hid (Ogo_28.out.below hb)
      have Oyi_29 := Lib.hid (Oyi_28.out.below hb)
      have Ou_29 := Lib.hid (Ou_28.out.below hb)
      have Oui_29 := Lib.hid (Oui_28.out.below hb)
      have Oh_29 := Lib.hid (Oh_28.out.below hb)
      have Oho_29 := Lib.hid (Oho_28.out.below hb)
      clear Kd_28 Kw_28 Kx_28 Kg_28 Kh_28 Ot_28 Oti_28 Ow_28 Owo_28 Ox_28 Oxi_28 Og_28 Ogo_28 Oyi_28 Ou_28 Oui_28 Oh_28 Oho_28
      clear hb
      go_wp2_with fail
      refine (heldIntS_any _ ro.length (1 + rz.length) _ hro (by omega) (by omega) (owC_marks Ogo_29.out)).mono ?_
      rintro e v0 ⟨rfl, rfl⟩
      go_wp2
      go_ret
      exact ⟨rfl, HB29.out⟩
  · have hsz : (if (1048576 : Int) < (zs.length : Int) then -1 else (1048576 : Int) - (zs.length : Int)) = -1 := if_pos (by omega)
    have HSZ := Lib.hid hsz
    clear hsz hl
    obtain ⟨w0, hw0⟩ : ∃ x, x = (w.alloc (.cells #[.int .i64 k, .int .i64 t, .int .i64 n, .int .i64 s, .int .i64 l, .slice a zs.length cap] 39)) := ⟨_, rfl⟩
    have HB0 := Lib.hid (show Below w.heap.size w w0 by rw [hw0]; exact (Below.refl _ _).alloc (Nat.le_refl _) _)
    have Kd_0 := Lib.hid (show w0.heap[w.heap.size]? = some (.cells #[.int .i64 k, .int .i64 t, .int .i64 n, .int .i64 s, .int .i64 l, .slice a zs.length cap] 39 (0, 0)) by rw [hw0]; exact heap_alloc_new w _)
    have SZ0 := Lib.hid (show w0.heap.size = w.heap.size + 1 by rw [hw0]; simp)
    have HW := Lib.hid hw0
    clear hw0
    go_enter Try.func9, Try.ntmps9
    have cd0 := (cells_of_heap Kd_0.out 0 (by simp)).1
    have cd1 := (cells_of_heap Kd_0.out 1 (by simp)).1
    have cd2 := (cells_of_heap Kd_0.out 2 (by simp)).1
    have cd3 := (cells_of_heap Kd_0.out 3 (by simp)).1
    have cd4 := (cells_of_heap Kd_0.out 4 (by simp)).1
    have cd5 := (cells_of_heap Kd_0.out 5 (by simp)).1
    go_wp2_with fail
    rw [← HW.out]
    refine (szDebouncer_any k t n s l a zs.length cap 1048576 _ (by omega) (by omega) hml).mono ?_
    rw [HSZ.out]
    rintro e w1 ⟨rfl, hb⟩
    clear cd0 cd1 cd2 cd3 cd4 cd5
    have HB1 := Lib.hid (HB0.out.trans (hb.mono HB0.out.size))
    have HS1 := Lib.hid hb.size
    have Kd_1 := Lib.hid (blk_below Kd_0.out hb)
    clear Kd_0
    clear hb
    go_wp2
    go_ret
    exact ⟨rfl, HB1.out⟩

end Go.Proofs.Ytdlcpijiekhafaa
