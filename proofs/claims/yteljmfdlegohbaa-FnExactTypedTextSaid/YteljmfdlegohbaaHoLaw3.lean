/- DERIVED. The exact law of TypedText, over the program's own function: called with any arguments, it returns true and changes nothing that was there. -/
import Derived.Test.YteljmfdlegohbaaRpsTo
import Derived.Test.YteljmfdlegohbaaHoTypI
import Derived.Test.YteljmfdlegohbaaRpsOpen
namespace Go.Proofs.Yteljmfdlegohbaa
open Go.RowKit

theorem specTextT (r : Int) (u : Value) (zs : List Int) (v : Value) (L : List Rv) (T : ByteArray) (hT : tyV (r, zs) L = T) (w : World) (hl : zs.length ≤ 1048576) (hL : L.length ≤ 1048576) (hk : ∀ r ∈ L, r.2.length ≤ 1048576) (h : Rd w u (zs.map (.int .i64))) (h2 : RdQ rpF w v L) :
    Calls Try.prog 73 #[rpv r u, v] w fun e w' => e = .returned (.string T) ∧ Below w.heap.size w w' := by
  rw [← hT]; exact specTypedText_any r u zs v L w hl hL hk h h2
theorem implTextT (r : Int) (u : Value) (zs : List Int) (v : Value) (L : List Rv) (T : ByteArray) (hT : tyV (r, zs) L = T) (w : World) (hl : zs.length ≤ 1048576) (hL : L.length ≤ 1048576) (hk : ∀ r ∈ L, r.2.length ≤ 1048576) (h : Rd w u (zs.map (.int .i64))) (h2 : RdQ rpF w v L) :
    Calls Try.prog 37 #[rpv r u, v] w fun e w' => e = .returned (.string T) ∧ Below w.heap.size w w' := by
  rw [← hT]; exact implTypedText_any r u zs v L w hl hL hk h h2

set_option maxHeartbeats 4000000 in
set_option maxRecDepth 100000 in
theorem lawTypedText_all (r : Int) (a : Option Addr) (m cap : Nat) (zs : List Int) (v : Value) (L : List Rv) (w : World) (hm : zs.length = m) (hml : m ≤ maxLen) (h : Rd w (.slice a m cap) (zs.map (.int .i64))) (hL : L.length ≤ maxLen ∧ ∀ r ∈ L, r.2.length ≤ maxLen) (h2 : RdQ rpF w v L) : Calls Try.prog 15 #[rpv r (.slice a m cap), v] w fun e w' => e = .returned (.bool true) ∧ Below w.heap.size w w' := by
  subst hm
  have HR := Lib.hid h
  have HR2 := Lib.hid h2
  have HLm := Lib.hid hL
  clear h h2 hL
  by_cases hl : zs.length ≤ 1048576
  · have hsz : (if (1048576 : Int) < (zs.length : Int) then -1 else (1048576 : Int) - (zs.length : Int)) = 1048576 - (zs.length : Int) := if_neg (by omega)
    have hsz0 : ¬ (1048576 : Int) - (zs.length : Int) < 0 := by omega
    have HSZ := Lib.hid hsz
    clear hsz
    obtain ⟨T, hT⟩ : ∃ x, tyV (r, zs) L = x := ⟨_, rfl⟩
    have HT := Lib.hid hT
    clear hT
    have hb0 : (!(T.toList == T.toList)) = false := by simp
    obtain ⟨w0, hw0⟩ : ∃ x, x = (w.alloc (.cells #[.int .i64 r, .slice a zs.length cap] 93)) := ⟨_, rfl⟩
    have HB0 := Lib.hid (show Below w.heap.size w w0 by rw [hw0]; exact (Below.refl _ _).alloc (Nat.le_refl _) _)
    have Kd_0 := Lib.hid (show w0.heap[w.heap.size]? = some (.cells #[.int .i64 r, .slice a zs.length cap] 93 (0, 0)) by rw [hw0]; exact heap_alloc_new w _)
    have SZ0 := Lib.hid (show w0.heap.size = w.heap.size + 1 by rw [hw0]; simp)
    have HW := Lib.hid hw0
    clear hw0
    go_enter Try.func15, Try.ntmps15
    have cd0 := (cells_of_heap Kd_0.out 0 (by simp)).1
    have cd1 := (cells_of_heap Kd_0.out 1 (by simp)).1
    go_wp2_with fail
    rw [← HW.out]
    refine (szReport_any r a zs.length cap 1048576 _ (by omega) (by omega) hml).mono ?_
    rw [HSZ.out]
    rintro e w1 ⟨rfl, hb⟩
    clear cd0 cd1
    have HB1 := Lib.hid (HB0.out.trans (hb.mono HB0.out.size))
    have HS1 := Lib.hid hb.size
    have Kd_1 := Lib.hid (blk_below Kd_0.out hb)
    clear Kd_0
    clear hb
    go_wp2_with fail
    refine (szReportS_any ((1048576 : Int) - (zs.length : Int)) (by omega) (by omega) v L _ HLm.out.1 HLm.out.2 (HR2.out.below HB1.out)).mono ?_
    rintro e w2 ⟨zr, rfl, hzr, hb⟩
    have HB2 := Lib.hid (HB1.out.trans (hb.mono HB1.out.size))
    have HS2 := Lib.hid hb.size
    have Kd_2 := Lib.hid (blk_below Kd_1.out hb)
    clear Kd_1
    clear hb
    by_cases hzn : zr < 0
    · clear hzr
      go_wp2
      go_ret
      exact ⟨rfl, HB2.out⟩
    · have hzz := hzr.resolve_left hzn
      have hlq : lenQ L L.length ≤ 1048576 := by omega
      have HLl := Lib.hid (show L.length ≤ 1048576 from Nat.le_trans (lenQ_ge L _) hlq)
      have HLk := Lib.hid (keys_le hlq)
      clear hzr hzz hlq
      have cd0 := (cells_of_heap Kd_2.out 0 (by simp)).1
      have cd1 := (cells_of_heap Kd_2.out 1 (by simp)).1
      go_wp2_with fail
      refine (toReport_law r _ zs _ hl (HR.out.below HB2.out)).mono ?_
      rintro e w3 ⟨a1, c1, f1, rfl, h1, hb⟩
      clear cd0 cd1
      have HB3 := Lib.hid (HB2.out.trans (hb.mono HB2.out.size))
      have HS3 := Lib.hid hb.size
      have Kd_3 := Lib.hid (blk_below Kd_2.out hb)
      clear Kd_2
      have Rt := Lib.hid (h1.rng)
      have Ot_3 := Lib.hid h1
      clear hb h1
      go_wp2_with fail
      refine (toReportS_any _ L _ HLl.out HLk.out (HR2.out.below HB3.out)).mono ?_
      rintro e w4 ⟨a2, c2, f2, rfl, h2, hb⟩
      have HB4 := Lib.hid (HB3.out.trans (hb.mono HB3.out.size))
      have HS4 := Lib.hid hb.size
      have Kd_4 := Lib.hid (blk_below Kd_3.out hb)
      have Ot_4 := Lib.hid (Ot_3.out.below hb)
      clear Kd_3 Ot_3
      have Ru := Lib.hid (h2.rng)
      have Ou_4 := Lib.hid h2
      clear hb h2
      go_wp2_with fail
      refine (specTextT r _ zs _ L T HT.out _ hl HLl.out HLk.out (owC_rd Ot_4.out) Ou_4.out.rd).mono ?_
      rintro e w5 ⟨rfl, hb⟩
      have HB5 := Lib.hid (HB4.out.trans (hb.mono HB4.out.size))
      have HS5 := Lib.hid hb.size
      have Kd_5 := Lib.hid (blk_below Kd_4.out hb)
      have Ot_5 := Lib.hid (Ot_4.out.below hb)
      have Ou_5 := Lib.hid (Ou_4.out.below hb)
      clear Kd_4 Ot_4 Ou_4
      clear hb
      have cd0 := (cells_of_heap Kd_5.out 0 (by simp)).1
      have cd1 := (cells_of_heap Kd_5.out 1 (by simp)).1
      go_wp2_with fail
      refine (toReport_law r _ zs _ hl (HR.out.below HB5.out)).mono ?_
      rintro e w6 ⟨a3, c3, f3, rfl, h3, hb⟩
      clear cd0 cd1
      have HB6 := Lib.hid (HB5.out.trans (hb.mono HB5.out.size))
      have HS6 := Lib.hid hb.size
      have Kd_6 := Lib.hid (blk_below Kd_5.out hb)
      have Ot_6 := Lib.hid (Ot_5.out.below hb)
      have Ou_6 := Lib.hid (Ou_5.out.below hb)
      clear Kd_5 Ot_5 Ou_5
      have Rx := Lib.hid (h3.rng)
      have Ox_6 := Lib.hid h3
      clear hb h3
      go_upto_region 10 with (fail)
      obtain ⟨w7, hw⟩ : ∃ x, x = w6.alloc (.cells #[.int .i64 r, .slice a3 zs.length c3] 62) := ⟨_, rfl⟩
      have hb : Below w6.heap.size w6 w7 := by rw [hw]; exact below_alloc1 _ _
      have hk : w7.heap[w6.heap.size]? = some (.cells #[.int .i64 r, .slice a3 zs.length c3] 62 (0, 0)) := by rw [hw]; exact heap_alloc_new _ _
      rw [← hw]
      have HB7 := Lib.hid (HB6.out.trans (hb.mono HB6.out.size))
      have HS7 := Lib.hid (show w6.heap.size < w7.heap.size from (Array.getElem?_eq_some_iff.mp hk).1)
      have Kd_7 := Lib.hid (blk_below Kd_6.out hb)
      have Ot_7 := Lib.hid (Ot_6.out.below hb)
      have Ou_7 := Lib.hid (Ou_6.out.below hb)
      have Ox_7 := Lib.hid (Ox_6.out.below hb)
      clear Kd_6 Ot_6 Ou_6 Ox_6
      have Kx_7 := Lib.hid hk
      clear hb hk hw
      go_wp2_with fail
      refine (toReportS_any _ L _ HLl.out HLk.out (HR2.out.below HB7.out)).mono ?_
      rintro e w8 ⟨a4, c4, f4, rfl, h4, hb⟩
      have HB8 := Lib.hid (HB7.out.trans (hb.mono HB7.out.size))
      have HS8 := Lib.hid hb.size
      have Kd_8 := Lib.hid (blk_below Kd_7.out hb)
      have Kx_8 := Lib.hid (blk_below Kx_7.out hb)
      have Ot_8 := Lib.hid (Ot_7.out.below hb)
      have Ou_8 := Lib.hid (Ou_7.out.below hb)
      have Ox_8 := Lib.hid (Ox_7.out.below hb)
      clear Kd_7 Kx_7 Ot_7 Ou_7 Ox_7
      have Ry := Lib.hid (h4.rng)
      have Oy_8 := Lib.hid h4
      clear hb h4
      have cx0 := (cells_of_heap Kx_8.out 0 (by simp)).1
      have cx1 := (cells_of_heap Kx_8.out 1 (by simp)).1
      go_wp2_with fail
      refine (implTextT r _ zs _ L T HT.out _ hl HLl.out HLk.out (owC_rd Ox_8.out) Oy_8.out.rd).mono ?_
      rintro e w9 ⟨rfl, hb⟩
      clear cx0 cx1
      have HB9 := Lib.hid (HB8.out.trans (hb.mono HB8.out.size))
      have HS9 := Lib.hid hb.size
      have Kd_9 := Lib.hid (blk_below Kd_8.out hb)
      have Kx_9 := Lib.hid (blk_below Kx_8.out hb)
      have Ot_9 := Lib.hid (Ot_8.out.below hb)
      have Ou_9 := Lib.hid (Ou_8.out.below hb)
      have Ox_9 := Lib.hid (Ox_8.out.below hb)
      have Oy_9 := Lib.hid (Oy_8.out.below hb)
      clear Kd_8 Kx_8 Ot_8 Ou_8 Ox_8 Oy_8
      clear hb
      go_upto_region 14 with (fail)
      go_cut [39] (fun sd wx => sd = .bool false ∧ Below w9.heap.size w9 wx)
      case first =>
        have cd0 := (cells_of_heap Kd_9.out 0 (by simp)).1
        have cd1 := (cells_of_heap Kd_9.out 1 (by simp)).1
        have cx0 := (cells_of_heap Kx_9.out 0 (by simp)).1
        have cx1 := (cells_of_heap Kx_9.out 1 (by simp)).1
        have ld : w.heap.size < w9.heap.size := (Array.getElem?_eq_some_iff.mp Kd_9.out).1
        have lx : w6.heap.size < w9.heap.size := (Array.getElem?_eq_some_iff.mp Kx_9.out).1
        have X0 := Lib.hid (Below.refl w9.heap.size w9)
        go_region_held3 (fun w' => w'.cell? ⟨w.heap.size, 0, none⟩ = some (.int .i64 r) ∧ w'.cell? ⟨w.heap.size, 1, none⟩ = some (.slice a zs.length cap) ∧ w'.cell? ⟨w6.heap.size, 0, none⟩ = some (.int .i64 r) ∧ w'.cell? ⟨w6.heap.size, 1, none⟩ = some (.slice a3 zs.length c3)) (first | go_keep)
          (first | (go_at_call 65; have z9 := X0; clear z9; refine (toReport_law r _ zs _ hl (HR.out.below (HB9.out.trans (Below.mono (by first | exact X0.out | exact X0.out.drew | exact X0.out.drew.drew) HB9.out.size)))).mono ?_; rintro e v1 ⟨a9, c9, f9, rfl, hy9, hb⟩; have hbr : Below w9.heap.size w9 v1 := below_via (by first | exact X0.out | exact X0.out.drew | exact X0.out.drew.drew) hb; have kcd0 := (hbr.cell (p := ⟨w.heap.size, 0, none⟩) ld).trans cd0; have kcd1 := (hbr.cell (p := ⟨w.heap.size, 1, none⟩) ld).trans cd1; have kcx0 := (hbr.cell (p := ⟨w6.heap.size, 0, none⟩) lx).trans cx0; have kcx1 := (hbr.cell (p := ⟨w6.heap.size, 1, none⟩) lx).trans cx1; have HY9 := Lib.hid (hy9); have X1 := Lib.hid hbr; clear hbr hb X0) | (go_at_call 68; have z9 := X1; clear z9; refine (eqReport_same r _ _ zs _ (by omega) ((owC_rd Ox_9.out).below (by first | exact X1.out | exact X1.out.drew | exact X1.out.drew.drew)) ((owC_rd HY9.out).below (by first | exact (Below.refl _ _) | exact (Below.refl _ _).drew | exact (Below.refl _ _).drew.drew))).mono ?_; rintro e v2 ⟨rfl, hb⟩; have hbr : Below w9.heap.size w9 v2 := below_via (by first | exact X1.out | exact X1.out.drew | exact X1.out.drew.drew) hb; have kcd0 := (hbr.cell (p := ⟨w.heap.size, 0, none⟩) ld).trans cd0; have kcd1 := (hbr.cell (p := ⟨w.heap.size, 1, none⟩) ld).trans cd1; have kcx0 := (hbr.cell (p := ⟨w6.heap.size, 0, none⟩) lx).trans cx0; have kcx1 := (hbr.cell (p := ⟨w6.heap.size, 1, none⟩) lx).trans cx1; have X2 := Lib.hid hbr; clear hbr hb X1))
        all_goals
          go_wp2
          go_meet
          exact ⟨rfl, by first | exact X2.out | exact X2.out.drew | exact X2.out.drew.drew⟩
      case rest =>
        obtain ⟨rfl, hb⟩ := hcut
        obtain ⟨w10, hw⟩ : ∃ x, x = wc := ⟨_, rfl⟩
        rw [← hw] at hb ⊢
        clear hw
        have HB10 := Lib.hid (HB9.out.trans (hb.mono HB9.out.size))
        have HS10 := Lib.hid hb.size
        have Kd_10 := Lib.hid (blk_below Kd_9.out hb)
        have Kx_10 := Lib.hid (blk_below Kx_9.out hb)
        have Ot_10 := Lib.hid (Ot_9.out.below hb)
        have Ou_10 := Lib.hid (Ou_9.out.below hb)
        have Ox_10 := Lib.hid (Ox_9.out.below hb)
        have Oy_10 := Lib.hid (Oy_9.out.below hb)
        clear Kd_9 Kx_9 Ot_9 Ou_9 Ox_9 Oy_9
        clear hb
        go_wp2_with fail
        refine (toReportS_any _ L _ HLl.out HLk.out (HR2.out.below HB10.out)).mono ?_
        rintro e w11 ⟨a5, c5, f5, rfl, h5, hb⟩
        have HB11 := Lib.hid (HB10.out.trans (hb.mono HB10.out.size))
        have HS11 := Lib.hid hb.size
        have Kd_11 := Lib.hid (blk_below Kd_10.out hb)
        have Kx_11 := Lib.hid (blk_below Kx_10.out hb)
        have Ot_11 := Lib.hid (Ot_10.out.below hb)
        have Ou_11 := Lib.hid (Ou_10.out.below hb)
        have Ox_11 := Lib.hid (Ox_10.out.below hb)
        have Oy_11 := Lib.hid (Oy_10.out.below hb)
        clear Kd_10 Kx_10 Ot_10 Ou_10 Ox_10 Oy_10
        have Rz := Lib.hid (h5.rng)
        have Oz_11 := Lib.hid h5
        clear hb h5
        go_wp2_with fail
        refine (eqReportS_same _ _ L _ (by have := HLl.out; omega) (fun r hr => Nat.le_trans (HLk.out r hr) (by decide)) Oy_11.out.rd Oz_11.out.rd).mono ?_
        rintro e w12 ⟨rfl, hb⟩
        have HB12 := Lib.hid (HB11.out.trans (hb.mono HB11.out.size))
        have HS12 := Lib.hid hb.size
        have Kd_12 := Lib.hid (blk_below Kd_11.out hb)
        have Kx_12 := Lib.hid (blk_below Kx_11.out hb)
        have Ot_12 := Lib.hid (Ot_11.out.below hb)
        have Ou_12 := Lib.hid (Ou_11.out.below hb)
        have Ox_12 := Lib.hid (Ox_11.out.below hb)
        have Oy_12 := Lib.hid (Oy_11.out.below hb)
        have Oz_12 := Lib.hid (Oz_11.out.below hb)
        clear Kd_11 Kx_11 Ot_11 Ou_11 Ox_11 Oy_11 Oz_11
        clear hb
        go_wp2
        go_ret
        exact ⟨rfl, HB12.out⟩
  · have hsz : (if (1048576 : Int) < (zs.length : Int) then -1 else (1048576 : Int) - (zs.length : Int)) = -1 := if_pos (by omega)
    have HSZ := Lib.hid hsz
    clear hsz hl
    obtain ⟨w0, hw0⟩ : ∃ x, x = (w.alloc (.cells #[.int .i64 r, .slice a zs.length cap] 93)) := ⟨_, rfl⟩
    have HB0 := Lib.hid (show Below w.heap.size w w0 by rw [hw0]; exact (Below.refl _ _).alloc (Nat.le_refl _) _)
    have Kd_0 := Lib.hid (show w0.heap[w.heap.size]? = some (.cells #[.int .i64 r, .slice a zs.length cap] 93 (0, 0)) by rw [hw0]; exact heap_alloc_new w _)
    have SZ0 := Lib.hid (show w0.heap.size = w.heap.size + 1 by rw [hw0]; simp)
    have HW := Lib.hid hw0
    clear hw0
    go_enter Try.func15, Try.ntmps15
    have cd0 := (cells_of_heap Kd_0.out 0 (by simp)).1
    have cd1 := (cells_of_heap Kd_0.out 1 (by simp)).1
    go_wp2_with fail
    rw [← HW.out]
    refine (szReport_any r a zs.length cap 1048576 _ (by omega) (by omega) hml).mono ?_
    rw [HSZ.out]
    rintro e w1 ⟨rfl, hb⟩
    clear cd0 cd1
    have HB1 := Lib.hid (HB0.out.trans (hb.mono HB0.out.size))
    have HS1 := Lib.hid hb.size
    have Kd_1 := Lib.hid (blk_below Kd_0.out hb)
    clear Kd_0
    clear hb
    go_wp2
    go_ret
    exact ⟨rfl, HB1.out⟩

end Go.Proofs.Yteljmfdlegohbaa
