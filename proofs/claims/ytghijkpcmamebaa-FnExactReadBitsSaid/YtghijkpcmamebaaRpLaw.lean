/- DERIVED. The exact laws of chapter 7 that only read reports: each, called with any report, returns true and changes nothing that was there; what the program's function does is a premise. -/
import Derived.Test.YtghijkpcmamebaaRpSpec2
import Derived.Test.YtghijkpcmamebaaLawBits
import Derived.Deep.RegionHeld3
namespace Go.Proofs.Ytghijkpcmamebaa
open Go.RowKit

theorem specSameReport_q (r1 : Int) (u1 : Value) (z1 : List Int) (r2 : Int) (u2 : Value) (z2 : List Int) (o : Bool) (ho : o = sameRp r1 z1 r2 z2) (w : World) (hl1 : z1.length ≤ maxLen) (h1 : Rd w u1 (z1.map (.int .i64))) (h2 : Rd w u2 (z2.map (.int .i64))) :
    Calls Try.prog 32 #[rpv r1 u1, rpv r2 u2] w fun e w' => e = .returned (.bool o) ∧ Below w.heap.size w w' := by
  rw [ho]; exact specSameReport_any r1 u1 z1 r2 u2 z2 w hl1 h1 h2

set_option maxHeartbeats 1000000 in
set_option maxRecDepth 100000 in
theorem lawIsReport_walk (r : Int) (a : Option Addr) (m cap : Nat) (zs : List Int) (w : World) (hm : zs.length = m) (hml : m ≤ maxLen) (h : Rd w (.slice a m cap) (zs.map (.int .i64))) (hI : ∀ (r : Int) (u : Value) (zs : List Int) (w : World), zs.length ≤ maxLen → Rd w u (zs.map (.int .i64)) → Calls Try.prog 16 #[rpv r u] w fun e w' => e = .returned (.bool (okRp r zs)) ∧ Below w.heap.size w w') : Calls Try.prog 7 #[rpv r (.slice a m cap)] w fun e w' => e = .returned (.bool true) ∧ Below w.heap.size w w' := by
  subst hm
  have HR := Lib.hid h
  have HI := Lib.hid hI
  clear h hI
  by_cases hl : zs.length ≤ 1048576
  · have hsz : (if (1048576 : Int) < (zs.length : Int) then -1 else (1048576 : Int) - (zs.length : Int)) = 1048576 - (zs.length : Int) := if_neg (by omega)
    have hsz0 : ¬ (1048576 : Int) - (zs.length : Int) < 0 := by omega
    have HSZ := Lib.hid hsz
    clear hsz
    obtain ⟨rr, hr⟩ : ∃ x, x = okRp r zs := ⟨_, rfl⟩
    have HRR := Lib.hid hr
    clear hr
    obtain ⟨w0, hw0⟩ : ∃ x, x = (w.alloc (.cells #[.int .i64 r, .slice a zs.length cap] 47)) := ⟨_, rfl⟩
    have HB0 := Lib.hid (show Below w.heap.size w w0 by rw [hw0]; exact (Below.refl _ _).alloc (Nat.le_refl _) _)
    have Kd_0 := Lib.hid (show w0.heap[w.heap.size]? = some (.cells #[.int .i64 r, .slice a zs.length cap] 47 (0, 0)) by rw [hw0]; exact heap_alloc_new w _)
    have SZ0 := Lib.hid (show w0.heap.size = w.heap.size + 1 by rw [hw0]; simp)
    have HW := Lib.hid hw0
    clear hw0
    go_enter Try.func7, Try.ntmps7
    have cd0 := (cells_of_heap Kd_0.out 0 (by simp)).1
    have cd1 := (cells_of_heap Kd_0.out 1 (by simp)).1
    go_wp2_with fail
    rw [← HW.out]
    refine (szReport_any r a zs.length cap 1048576 _ (by omega) (by omega) hml).mono ?_
    rw [HSZ.out]
    rintro e w1 ⟨rfl, hb⟩
    clear cd0 cd1
    have HB1 := Lib.hid (HB0.out.trans (hb.mono HB0.out.size))
    have HS1 := Lib.hid hb.size
    have Kd_1 := Lib.hid (blk_below Kd_0.out hb)
    clear Kd_0
    clear hb
    have cd0 := (cells_of_heap Kd_1.out 0 (by simp)).1
    have cd1 := (cells_of_heap Kd_1.out 1 (by simp)).1
    go_wp2_with fail
    refine (toReport_law r _ zs _ hl (HR.out.below HB1.out)).mono ?_
    rintro e w2 ⟨a1, c1, f1, rfl, h1, hb⟩
    clear cd0 cd1
    have HB2 := Lib.hid (HB1.out.trans (hb.mono HB1.out.size))
    have HS2 := Lib.hid hb.size
    have Kd_2 := Lib.hid (blk_below Kd_1.out hb)
    clear Kd_1
    have Rt := Lib.hid (h1.range _ _ _ _)
    have Ot_2 := Lib.hid h1
    clear hb h1
    go_wp2_with fail
    refine (specIsReport_any r _ zs _ (by unfold maxLen; omega) (owC_rd Ot_2.out)).mono ?_
    rw [← HRR.out]
    rintro e w3 ⟨rfl, hb⟩
    have HB3 := Lib.hid (HB2.out.trans (hb.mono HB2.out.size))
    have HS3 := Lib.hid hb.size
    have Kd_3 := Lib.hid (blk_below Kd_2.out hb)
    have Ot_3 := Lib.hid (Ot_2.out.below hb)
    clear Kd_2 Ot_2
    clear hb
    have cd0 := (cells_of_heap Kd_3.out 0 (by simp)).1
    have cd1 := (cells_of_heap Kd_3.out 1 (by simp)).1
    go_wp2_with fail
    refine (toReport_law r _ zs _ hl (HR.out.below HB3.out)).mono ?_
    rintro e w4 ⟨a2, c2, f2, rfl, h2, hb⟩
    clear cd0 cd1
    have HB4 := Lib.hid (HB3.out.trans (hb.mono HB3.out.size))
    have HS4 := Lib.hid hb.size
    have Kd_4 := Lib.hid (blk_below Kd_3.out hb)
    have Ot_4 := Lib.hid (Ot_3.out.below hb)
    clear Kd_3 Ot_3
    have Rx := Lib.hid (h2.range _ _ _ _)
    have Ox_4 := Lib.hid h2
    clear hb h2
    go_upto_region 7 with (fail)
    obtain ⟨w5, hw⟩ : ∃ x, x = w4.alloc (.cells #[.int .i64 r, .slice a2 zs.length c2] 28) := ⟨_, rfl⟩
    have hb : Below w4.heap.size w4 w5 := by rw [hw]; exact below_alloc1 _ _
    have hk : w5.heap[w4.heap.size]? = some (.cells #[.int .i64 r, .slice a2 zs.length c2] 28 (0, 0)) := by rw [hw]; exact heap_alloc_new _ _
    rw [← hw]
    have HB5 := Lib.hid (HB4.out.trans (hb.mono HB4.out.size))
    have HS5 := Lib.hid (show w4.heap.size < w5.heap.size from (Array.getElem?_eq_some_iff.mp hk).1)
    have Kd_5 := Lib.hid (blk_below Kd_4.out hb)
    have Ot_5 := Lib.hid (Ot_4.out.below hb)
    have Ox_5 := Lib.hid (Ox_4.out.below hb)
    clear Kd_4 Ot_4 Ox_4
    have Kx_5 := Lib.hid hk
    clear hb hk hw
    have cx0 := (cells_of_heap Kx_5.out 0 (by simp)).1
    have cx1 := (cells_of_heap Kx_5.out 1 (by simp)).1
    go_wp2_with fail
    refine (HI.out r _ zs _ (by unfold maxLen; omega) (owC_rd Ox_5.out)).mono ?_
    rw [← HRR.out]
    rintro e w6 ⟨rfl, hb⟩
    clear cx0 cx1
    have HB6 := Lib.hid (HB5.out.trans (hb.mono HB5.out.size))
    have HS6 := Lib.hid hb.size
    have Kd_6 := Lib.hid (blk_below Kd_5.out hb)
    have Kx_6 := Lib.hid (blk_below Kx_5.out hb)
    have Ot_6 := Lib.hid (Ot_5.out.below hb)
    have Ox_6 := Lib.hid (Ox_5.out.below hb)
    clear Kd_5 Kx_5 Ot_5 Ox_5
    clear hb
    go_upto_region 10 with (fail)
    go_cut [26] (fun sd wx => sd = .bool false ∧ Below w6.heap.size w6 wx)
    case first =>
      have cd0 := (cells_of_heap Kd_6.out 0 (by simp)).1
      have cd1 := (cells_of_heap Kd_6.out 1 (by simp)).1
      have cx0 := (cells_of_heap Kx_6.out 0 (by simp)).1
      have cx1 := (cells_of_heap Kx_6.out 1 (by simp)).1
      have ld : w.heap.size < w6.heap.size := (Array.getElem?_eq_some_iff.mp Kd_6.out).1
      have lx : w4.heap.size < w6.heap.size := (Array.getElem?_eq_some_iff.mp Kx_6.out).1
      go_region_held3 (fun w' => w'.cell? ⟨w.heap.size, 0, none⟩ = some (.int .i64 r) ∧ w'.cell? ⟨w.heap.size, 1, none⟩ = some (.slice a zs.length cap) ∧ w'.cell? ⟨w4.heap.size, 0, none⟩ = some (.int .i64 r) ∧ w'.cell? ⟨w4.heap.size, 1, none⟩ = some (.slice a2 zs.length c2)) (first | go_keep)
        (first | (go_at_call 31; refine (toReport_law r _ zs _ hl (HR.out.below (by first | exact HB6.out | exact HB6.out.drew | exact HB6.out.drew.drew))).mono ?_; rintro e v1 ⟨a3, c3, f3, rfl, hy, hb1⟩; have hbr : Below w6.heap.size w6 v1 := (by first | exact hb1 | exact ((Below.refl _ _).drew).trans hb1 | exact ((Below.refl _ _).drew.drew).trans hb1); have kcd0 := (hbr.cell (p := ⟨w.heap.size, 0, none⟩) ld).trans cd0; have kcd1 := (hbr.cell (p := ⟨w.heap.size, 1, none⟩) ld).trans cd1; have kcx0 := (hbr.cell (p := ⟨w4.heap.size, 0, none⟩) lx).trans cx0; have kcx1 := (hbr.cell (p := ⟨w4.heap.size, 1, none⟩) lx).trans cx1; have HBR := Lib.hid hbr; have HY := Lib.hid hy; clear hbr hb1 hy) | (go_at_call 25; refine (eqReport_same r _ _ zs _ (by omega) ((owC_rd Ox_6.out).below (by first | exact HBR.out | exact HBR.out.drew | exact HBR.out.drew.drew)) ((owC_rd HY.out).below (by first | exact Below.refl _ _ | exact (Below.refl _ _).drew | exact (Below.refl _ _).drew.drew))).mono ?_; rintro e v2 ⟨rfl, hb2⟩; have hbr : Below w6.heap.size w6 v2 := (by first | exact HBR.out.trans (hb2.mono HBR.out.size) | exact HBR.out.trans (((Below.refl _ _).drew.trans hb2).mono HBR.out.size) | exact HBR.out.trans (((Below.refl _ _).drew.drew.trans hb2).mono HBR.out.size)); have kcd0 := (hbr.cell (p := ⟨w.heap.size, 0, none⟩) ld).trans cd0; have kcd1 := (hbr.cell (p := ⟨w.heap.size, 1, none⟩) ld).trans cd1; have kcx0 := (hbr.cell (p := ⟨w4.heap.size, 0, none⟩) lx).trans cx0; have kcx1 := (hbr.cell (p := ⟨w4.heap.size, 1, none⟩) lx).trans cx1; have HB2 := Lib.hid hbr; clear hbr hb2))
      all_goals
        go_wp2
        go_meet
        exact ⟨rfl, by first | exact HB2.out | exact HB2.out.drew⟩
    case rest =>
      obtain ⟨rfl, hb⟩ := hcut
      obtain ⟨w7, hw⟩ : ∃ x, x = wc := ⟨_, rfl⟩
      rw [← hw] at hb ⊢
      clear hw
      have HB7 := Lib.hid (HB6.out.trans (hb.mono HB6.out.size))
      have HS7 := Lib.hid hb.size
      have Kd_7 := Lib.hid (blk_below Kd_6.out hb)
      have Kx_7 := Lib.hid (blk_below Kx_6.out hb)
      have Ot_7 := Lib.hid (Ot_6.out.below hb)
      have Ox_7 := Lib.hid (Ox_6.out.below hb)
      clear Kd_6 Kx_6 Ot_6 Ox_6
      clear hb
      go_wp2
      go_ret
      exact ⟨rfl, HB7.out⟩
  · have hsz : (if (1048576 : Int) < (zs.length : Int) then -1 else (1048576 : Int) - (zs.length : Int)) = -1 := if_pos (by omega)
    have HSZ := Lib.hid hsz
    clear hsz hl
    obtain ⟨w0, hw0⟩ : ∃ x, x = (w.alloc (.cells #[.int .i64 r, .slice a zs.length cap] 47)) := ⟨_, rfl⟩
    have HB0 := Lib.hid (show Below w.heap.size w w0 by rw [hw0]; exact (Below.refl _ _).alloc (Nat.le_refl _) _)
    have Kd_0 := Lib.hid (show w0.heap[w.heap.size]? = some (.cells #[.int .i64 r, .slice a zs.length cap] 47 (0, 0)) by rw [hw0]; exact heap_alloc_new w _)
    have SZ0 := Lib.hid (show w0.heap.size = w.heap.size + 1 by rw [hw0]; simp)
    have HW := Lib.hid hw0
    clear hw0
    go_enter Try.func7, Try.ntmps7
    have cd0 := (cells_of_heap Kd_0.out 0 (by simp)).1
    have cd1 := (cells_of_heap Kd_0.out 1 (by simp)).1
    go_wp2_with fail
    rw [← HW.out]
    refine (szReport_any r a zs.length cap 1048576 _ (by omega) (by omega) hml).mono ?_
    rw [HSZ.out]
    rintro e w1 ⟨rfl, hb⟩
    clear cd0 cd1
    have HB1 := Lib.hid (HB0.out.trans (hb.mono HB0.out.size))
    have HS1 := Lib.hid hb.size
    have Kd_1 := Lib.hid (blk_below Kd_0.out hb)
    clear Kd_0
    clear hb
    go_wp2
    go_ret
    exact ⟨rfl, HB1.out⟩

set_option maxHeartbeats 1000000 in
set_option maxRecDepth 100000 in
theorem lawSameReport_walk (r1 : Int) (a1 : Option Addr) (m1 cap1 : Nat) (z1 : List Int) (r2 : Int) (a2 : Option Addr) (m2 cap2 : Nat) (z2 : List Int) (w : World) (hm1 : z1.length = m1) (hml1 : m1 ≤ maxLen) (h1 : Rd w (.slice a1 m1 cap1) (z1.map (.int .i64))) (hm2 : z2.length = m2) (hml2 : m2 ≤ maxLen) (h2 : Rd w (.slice a2 m2 cap2) (z2.map (.int .i64))) (hI : ∀ (r1 : Int) (u1 : Value) (z1 : List Int) (r2 : Int) (u2 : Value) (z2 : List Int) (w : World), z1.length ≤ maxLen → z2.length ≤ maxLen → Rd w u1 (z1.map (.int .i64)) → Rd w u2 (z2.map (.int .i64)) → Calls Try.prog 17 #[rpv r1 u1, rpv r2 u2] w fun e w' => e = .returned (.bool (sameRp r1 z1 r2 z2)) ∧ Below w.heap.size w w') : Calls Try.prog 8 #[rpv r1 (.slice a1 m1 cap1), rpv r2 (.slice a2 m2 cap2)] w fun e w' => e = .returned (.bool true) ∧ Below w.heap.size w w' := by
  subst hm1 hm2
  have HR1 := Lib.hid h1
  have HR2 := Lib.hid h2
  have HI := Lib.hid hI
  clear h1 h2 hI
  by_cases hl1 : z1.length ≤ 1048576
  · have hsz : (if (1048576 : Int) < (z1.length : Int) then -1 else (1048576 : Int) - (z1.length : Int)) = 1048576 - (z1.length : Int) := if_neg (by omega)
    have hsz0 : ¬ (1048576 : Int) - (z1.length : Int) < 0 := by omega
    have HSZ := Lib.hid hsz
    clear hsz
    by_cases hl2 : z1.length + z2.length ≤ 1048576
    · have hsq : (if (1048576 : Int) - (z1.length : Int) < (z2.length : Int) then -1 else (1048576 : Int) - (z1.length : Int) - (z2.length : Int)) = 1048576 - (z1.length : Int) - (z2.length : Int) := if_neg (by omega)
      have hsq0 : ¬ (1048576 : Int) - (z1.length : Int) - (z2.length : Int) < 0 := by omega
      have hq2 : z2.length ≤ 1048576 := by omega
      have HSQ := Lib.hid hsq
      clear hsq
      obtain ⟨rr, hr⟩ : ∃ x, x = sameRp r1 z1 r2 z2 := ⟨_, rfl⟩
      have HRR := Lib.hid hr
      clear hr
      obtain ⟨w0, hw0⟩ : ∃ x, x = ((w.alloc (.cells #[.int .i64 r1, .slice a1 z1.length cap1] 47)).alloc (.cells #[.int .i64 r2, .slice a2 z2.length cap2] 47)) := ⟨_, rfl⟩
      have HB0 := Lib.hid (show Below w.heap.size w w0 by rw [hw0]; exact ((Below.refl _ _).alloc (Nat.le_refl _) _).alloc (by simp) _)
      have Kd_0 := Lib.hid (show w0.heap[w.heap.size]? = some (.cells #[.int .i64 r1, .slice a1 z1.length cap1] 47 (0, 0)) by rw [hw0]; rw [Below.heap_alloc _ _ _ (by simp <;> omega)]; exact heap_alloc_new w _)
      have Ke_0 := Lib.hid (show w0.heap[w.heap.size + 1]? = some (.cells #[.int .i64 r2, .slice a2 z2.length cap2] 47 (0, 0)) by rw [hw0]; simpa using heap_alloc_new (w.alloc (.cells #[.int .i64 r1, .slice a1 z1.length cap1] 47)) _)
      have SZ0 := Lib.hid (show w0.heap.size = w.heap.size + 1 + 1 by rw [hw0]; simp)
      have HW := Lib.hid hw0
      clear hw0
      go_enter Try.func8, Try.ntmps8
      have cd0 := (cells_of_heap Kd_0.out 0 (by simp)).1
      have cd1 := (cells_of_heap Kd_0.out 1 (by simp)).1
      go_wp2_with fail
      rw [← HW.out]
      refine (szReport_any r1 a1 z1.length cap1 1048576 _ (by omega) (by omega) hml1).mono ?_
      rw [HSZ.out]
      rintro e w1 ⟨rfl, hb⟩
      clear cd0 cd1
      have HB1 := Lib.hid (HB0.out.trans (hb.mono HB0.out.size))
      have HS1 := Lib.hid hb.size
      have Kd_1 := Lib.hid (blk_below Kd_0.out hb)
      have Ke_1 := Lib.hid (blk_below Ke_0.out hb)
      clear Kd_0 Ke_0
      clear hb
      have ce0 := (cells_of_heap Ke_1.out 0 (by simp)).1
      have ce1 := (cells_of_heap Ke_1.out 1 (by simp)).1
      go_wp2_with fail
      refine (szReport_any r2 a2 z2.length cap2 (1048576 - (z1.length : Int)) _ (by omega) (by omega) hml2).mono ?_
      rw [HSQ.out]
      rintro e w2 ⟨rfl, hb⟩
      clear ce0 ce1
      have HB2 := Lib.hid (HB1.out.trans (hb.mono HB1.out.size))
      have HS2 := Lib.hid hb.size
      have Kd_2 := Lib.hid (blk_below Kd_1.out hb)
      have Ke_2 := Lib.hid (blk_below Ke_1.out hb)
      clear Kd_1 Ke_1
      clear hb
      go_upto_region 8 with (fail)
      go_cut [6] (fun sd wx => sd = .bool rr ∧ Below w2.heap.size w2 wx)
      case first =>
        have cd0 := (cells_of_heap Kd_2.out 0 (by simp)).1
        have cd1 := (cells_of_heap Kd_2.out 1 (by simp)).1
        have ce0 := (cells_of_heap Ke_2.out 0 (by simp)).1
        have ce1 := (cells_of_heap Ke_2.out 1 (by simp)).1
        have ld : w.heap.size < w2.heap.size := (Array.getElem?_eq_some_iff.mp Kd_2.out).1
        have le : w.heap.size + 1 < w2.heap.size := (Array.getElem?_eq_some_iff.mp Ke_2.out).1
        have X0 := Lib.hid (Below.refl w2.heap.size w2)
        go_region_held3 (fun w' => w'.cell? ⟨w.heap.size, 0, none⟩ = some (.int .i64 r1) ∧ w'.cell? ⟨w.heap.size, 1, none⟩ = some (.slice a1 z1.length cap1) ∧ w'.cell? ⟨w.heap.size + 1, 0, none⟩ = some (.int .i64 r2) ∧ w'.cell? ⟨w.heap.size + 1, 1, none⟩ = some (.slice a2 z2.length cap2)) (first | go_keep)
          (first | (go_at_call 31; have z9 := X0; clear z9; refine (toReport_law r1 _ z1 _ hl1 (HR1.out.below (HB2.out.trans (Below.mono (by first | exact X0.out | exact X0.out.drew | exact X0.out.drew.drew) HB2.out.size)))).mono ?_; rintro e v1 ⟨a7, c7, f7, rfl, hy7, hb⟩; have hbr : Below w2.heap.size w2 v1 := below_via (by first | exact X0.out | exact X0.out.drew | exact X0.out.drew.drew) hb; have kcd0 := (hbr.cell (p := ⟨w.heap.size, 0, none⟩) ld).trans cd0; have kcd1 := (hbr.cell (p := ⟨w.heap.size, 1, none⟩) ld).trans cd1; have kce0 := (hbr.cell (p := ⟨w.heap.size + 1, 0, none⟩) le).trans ce0; have kce1 := (hbr.cell (p := ⟨w.heap.size + 1, 1, none⟩) le).trans ce1; have HY7 := Lib.hid (hy7); have X1 := Lib.hid hbr; clear hbr hb X0) | (go_at_call 31; have z9 := X1; clear z9; refine (toReport_law r2 _ z2 _ hq2 (HR2.out.below (HB2.out.trans (Below.mono (by first | exact X1.out | exact X1.out.drew | exact X1.out.drew.drew) HB2.out.size)))).mono ?_; rintro e v2 ⟨a8, c8, f8, rfl, hy8, hb⟩; have hbr : Below w2.heap.size w2 v2 := below_via (by first | exact X1.out | exact X1.out.drew | exact X1.out.drew.drew) hb; have kcd0 := (hbr.cell (p := ⟨w.heap.size, 0, none⟩) ld).trans cd0; have kcd1 := (hbr.cell (p := ⟨w.heap.size, 1, none⟩) ld).trans cd1; have kce0 := (hbr.cell (p := ⟨w.heap.size + 1, 0, none⟩) le).trans ce0; have kce1 := (hbr.cell (p := ⟨w.heap.size + 1, 1, none⟩) le).trans ce1; have HY8 := Lib.hid (hy8); have HB12 := Lib.hid (show Below v1.heap.size v1 v2 by first | exact hb | exact ((Below.refl _ _).drew).trans hb | exact ((Below.refl _ _).drew.drew).trans hb); have X2 := Lib.hid hbr; clear hbr hb X1) | (go_at_call 32; have z9 := X2; clear z9; refine (specSameReport_q r1 _ z1 r2 _ z2 rr HRR.out _ (by unfold maxLen; omega) (((owC_rd HY7.out).below HB12.out).below (by first | exact (Below.refl _ _) | exact (Below.refl _ _).drew | exact (Below.refl _ _).drew.drew)) ((owC_rd HY8.out).below (by first | exact (Below.refl _ _) | exact (Below.refl _ _).drew | exact (Below.refl _ _).drew.drew))).mono ?_; rintro e v3 ⟨rfl, hb⟩; have hbr : Below w2.heap.size w2 v3 := below_via (by first | exact X2.out | exact X2.out.drew | exact X2.out.drew.drew) hb; have kcd0 := (hbr.cell (p := ⟨w.heap.size, 0, none⟩) ld).trans cd0; have kcd1 := (hbr.cell (p := ⟨w.heap.size, 1, none⟩) ld).trans cd1; have kce0 := (hbr.cell (p := ⟨w.heap.size + 1, 0, none⟩) le).trans ce0; have kce1 := (hbr.cell (p := ⟨w.heap.size + 1, 1, none⟩) le).trans ce1; have X3 := Lib.hid hbr; clear hbr hb X2))
        all_goals
          go_wp2
          go_meet
          exact ⟨rfl, by first | exact X3.out | exact X3.out.drew | exact X3.out.drew.drew⟩
      case rest =>
        obtain ⟨rfl, hb⟩ := hcut
        obtain ⟨w3, hw⟩ : ∃ x, x = wc := ⟨_, rfl⟩
        rw [← hw] at hb ⊢
        clear hw
        have HB3 := Lib.hid (HB2.out.trans (hb.mono HB2.out.size))
        have HS3 := Lib.hid hb.size
        have Kd_3 := Lib.hid (blk_below Kd_2.out hb)
        have Ke_3 := Lib.hid (blk_below Ke_2.out hb)
        clear Kd_2 Ke_2
        clear hb
        have cd0 := (cells_of_heap Kd_3.out 0 (by simp)).1
        have cd1 := (cells_of_heap Kd_3.out 1 (by simp)).1
        go_wp2_with fail
        refine (toReport_law r1 _ z1 _ hl1 (HR1.out.below HB3.out)).mono ?_
        rintro e w4 ⟨a3, c3, f3, rfl, h3, hb⟩
        clear cd0 cd1
        have HB4 := Lib.hid (HB3.out.trans (hb.mono HB3.out.size))
        have HS4 := Lib.hid hb.size
        have Kd_4 := Lib.hid (blk_below Kd_3.out hb)
        have Ke_4 := Lib.hid (blk_below Ke_3.out hb)
        clear Kd_3 Ke_3
        have Rx := Lib.hid (h3.range _ _ _ _)
        have Ox_4 := Lib.hid h3
        clear hb h3
        go_upto_region 10 with (fail)
        obtain ⟨w5, hw⟩ : ∃ x, x = w4.alloc (.cells #[.int .i64 r1, .slice a3 z1.length c3] 28) := ⟨_, rfl⟩
        have hb : Below w4.heap.size w4 w5 := by rw [hw]; exact below_alloc1 _ _
        have hk : w5.heap[w4.heap.size]? = some (.cells #[.int .i64 r1, .slice a3 z1.length c3] 28 (0, 0)) := by rw [hw]; exact heap_alloc_new _ _
        rw [← hw]
        have HB5 := Lib.hid (HB4.out.trans (hb.mono HB4.out.size))
        have HS5 := Lib.hid (show w4.heap.size < w5.heap.size from (Array.getElem?_eq_some_iff.mp hk).1)
        have Kd_5 := Lib.hid (blk_below Kd_4.out hb)
        have Ke_5 := Lib.hid (blk_below Ke_4.out hb)
        have Ox_5 := Lib.hid (Ox_4.out.below hb)
        clear Kd_4 Ke_4 Ox_4
        have Kx_5 := Lib.hid hk
        clear hb hk hw
        have ce0 := (cells_of_heap Ke_5.out 0 (by simp)).1
        have ce1 := (cells_of_heap Ke_5.out 1 (by simp)).1
        go_wp2_with fail
        refine (toReport_law r2 _ z2 _ hq2 (HR2.out.below HB5.out)).mono ?_
        rintro e w6 ⟨a4, c4, f4, rfl, h4, hb⟩
        clear ce0 ce1
        have HB6 := Lib.hid (HB5.out.trans (hb.mono HB5.out.size))
        have HS6 := Lib.hid hb.size
        have Kd_6 := Lib.hid (blk_below Kd_5.out hb)
        have Ke_6 := Lib.hid (blk_below Ke_5.out hb)
        have Kx_6 := Lib.hid (blk_below Kx_5.out hb)
        have Ox_6 := Lib.hid (Ox_5.out.below hb)
        clear Kd_5 Ke_5 Kx_5 Ox_5
        have Ry := Lib.hid (h4.range _ _ _ _)
        have Oy_6 := Lib.hid h4
        clear hb h4
        go_upto_region 11 with (fail)
        obtain ⟨w7, hw⟩ : ∃ x, x = w6.alloc (.cells #[.int .i64 r2, .slice a4 z2.length c4] 28) := ⟨_, rfl⟩
        have hb : Below w6.heap.size w6 w7 := by rw [hw]; exact below_alloc1 _ _
        have hk : w7.heap[w6.heap.size]? = some (.cells #[.int .i64 r2, .slice a4 z2.length c4] 28 (0, 0)) := by rw [hw]; exact heap_alloc_new _ _
        rw [← hw]
        have HB7 := Lib.hid (HB6.out.trans (hb.mono HB6.out.size))
        have HS7 := Lib.hid (show w6.heap.size < w7.heap.size from (Array.getElem?_eq_some_iff.mp hk).1)
        have Kd_7 := Lib.hid (blk_below Kd_6.out hb)
        have Ke_7 := Lib.hid (blk_below Ke_6.out hb)
        have Kx_7 := Lib.hid (blk_below Kx_6.out hb)
        have Ox_7 := Lib.hid (Ox_6.out.below hb)
        have Oy_7 := Lib.hid (Oy_6.out.below hb)
        clear Kd_6 Ke_6 Kx_6 Ox_6 Oy_6
        have Ky_7 := Lib.hid hk
        clear hb hk hw
        have cx0 := (cells_of_heap Kx_7.out 0 (by simp)).1
        have cx1 := (cells_of_heap Kx_7.out 1 (by simp)).1
        have cy0 := (cells_of_heap Ky_7.out 0 (by simp)).1
        have cy1 := (cells_of_heap Ky_7.out 1 (by simp)).1
        go_wp2_with fail
        refine (HI.out r1 _ z1 r2 _ z2 _ (by unfold maxLen; omega) (by unfold maxLen; omega) (owC_rd Ox_7.out) (owC_rd Oy_7.out)).mono ?_
        rw [← HRR.out]
        rintro e w8 ⟨rfl, hb⟩
        clear cx0 cx1 cy0 cy1
        have HB8 := Lib.hid (HB7.out.trans (hb.mono HB7.out.size))
        have HS8 := Lib.hid hb.size
        have Kd_8 := Lib.hid (blk_below Kd_7.out hb)
        have Ke_8 := Lib.hid (blk_below Ke_7.out hb)
        have Kx_8 := Lib.hid (blk_below Kx_7.out hb)
        have Ky_8 := Lib.hid (blk_below Ky_7.out hb)
        have Ox_8 := Lib.hid (Ox_7.out.below hb)
        have Oy_8 := Lib.hid (Oy_7.out.below hb)
        clear Kd_7 Ke_7 Kx_7 Ky_7 Ox_7 Oy_7
        clear hb
        go_upto_region 14 with (fail)
        go_cut [39] (fun sd wx => sd = .bool false ∧ Below w8.heap.size w8 wx)
        case first =>
          have cd0 := (cells_of_heap Kd_8.out 0 (by simp)).1
          have cd1 := (cells_of_heap Kd_8.out 1 (by simp)).1
          have cx0 := (cells_of_heap Kx_8.out 0 (by simp)).1
          have cx1 := (cells_of_heap Kx_8.out 1 (by simp)).1
          have ld : w.heap.size < w8.heap.size := (Array.getElem?_eq_some_iff.mp Kd_8.out).1
          have lx : w4.heap.size < w8.heap.size := (Array.getElem?_eq_some_iff.mp Kx_8.out).1
          have X0 := Lib.hid (Below.refl w8.heap.size w8)
          go_region_held3 (fun w' => w'.cell? ⟨w.heap.size, 0, none⟩ = some (.int .i64 r1) ∧ w'.cell? ⟨w.heap.size, 1, none⟩ = some (.slice a1 z1.length cap1) ∧ w'.cell? ⟨w4.heap.size, 0, none⟩ = some (.int .i64 r1) ∧ w'.cell? ⟨w4.heap.size, 1, none⟩ = some (.slice a3 z1.length c3)) (first | go_keep)
            (first | (go_at_call 31; have z9 := X0; clear z9; refine (toReport_law r1 _ z1 _ hl1 (HR1.out.below (HB8.out.trans (Below.mono (by first | exact X0.out | exact X0.out.drew | exact X0.out.drew.drew) HB8.out.size)))).mono ?_; rintro e v1 ⟨a9, c9, f9, rfl, hy9, hb⟩; have hbr : Below w8.heap.size w8 v1 := below_via (by first | exact X0.out | exact X0.out.drew | exact X0.out.drew.drew) hb; have kcd0 := (hbr.cell (p := ⟨w.heap.size, 0, none⟩) ld).trans cd0; have kcd1 := (hbr.cell (p := ⟨w.heap.size, 1, none⟩) ld).trans cd1; have kcx0 := (hbr.cell (p := ⟨w4.heap.size, 0, none⟩) lx).trans cx0; have kcx1 := (hbr.cell (p := ⟨w4.heap.size, 1, none⟩) lx).trans cx1; have HY9 := Lib.hid (hy9); have X1 := Lib.hid hbr; clear hbr hb X0) | (go_at_call 25; have z9 := X1; clear z9; refine (eqReport_same r1 _ _ z1 _ (by omega) ((owC_rd Ox_8.out).below (by first | exact X1.out | exact X1.out.drew | exact X1.out.drew.drew)) ((owC_rd HY9.out).below (by first | exact (Below.refl _ _) | exact (Below.refl _ _).drew | exact (Below.refl _ _).drew.drew))).mono ?_; rintro e v2 ⟨rfl, hb⟩; have hbr : Below w8.heap.size w8 v2 := below_via (by first | exact X1.out | exact X1.out.drew | exact X1.out.drew.drew) hb; have kcd0 := (hbr.cell (p := ⟨w.heap.size, 0, none⟩) ld).trans cd0; have kcd1 := (hbr.cell (p := ⟨w.heap.size, 1, none⟩) ld).trans cd1; have kcx0 := (hbr.cell (p := ⟨w4.heap.size, 0, none⟩) lx).trans cx0; have kcx1 := (hbr.cell (p := ⟨w4.heap.size, 1, none⟩) lx).trans cx1; have X2 := Lib.hid hbr; clear hbr hb X1))
          all_goals
            go_wp2
            go_meet
            exact ⟨rfl, by first | exact X2.out | exact X2.out.drew | exact X2.out.drew.drew⟩
        case rest =>
          obtain ⟨rfl, hb⟩ := hcut
          obtain ⟨w9, hw⟩ : ∃ x, x = wc := ⟨_, rfl⟩
          rw [← hw] at hb ⊢
          clear hw
          have HB9 := Lib.hid (HB8.out.trans (hb.mono HB8.out.size))
          have HS9 := Lib.hid hb.size
          have Kd_9 := Lib.hid (blk_below Kd_8.out hb)
          have Ke_9 := Lib.hid (blk_below Ke_8.out hb)
          have Kx_9 := Lib.hid (blk_below Kx_8.out hb)
          have Ky_9 := Lib.hid (blk_below Ky_8.out hb)
          have Ox_9 := Lib.hid (Ox_8.out.below hb)
          have Oy_9 := Lib.hid (Oy_8.out.below hb)
          clear Kd_8 Ke_8 Kx_8 Ky_8 Ox_8 Oy_8
          clear hb
          go_upto_region 16 with (fail)
          go_cut [44] (fun sd wx => sd = .bool false ∧ Below w9.heap.size w9 wx)
          case first =>
            have ce0 := (cells_of_heap Ke_9.out 0 (by simp)).1
            have ce1 := (cells_of_heap Ke_9.out 1 (by simp)).1
            have cy0 := (cells_of_heap Ky_9.out 0 (by simp)).1
            have cy1 := (cells_of_heap Ky_9.out 1 (by simp)).1
            have le : w.heap.size + 1 < w9.heap.size := (Array.getElem?_eq_some_iff.mp Ke_9.out).1
            have ly : w6.heap.size < w9.heap.size := (Array.getElem?_eq_some_iff.mp Ky_9.out).1
            have X0 := Lib.hid (Below.refl w9.heap.size w9)
            go_region_held3 (fun w' => w'.cell? ⟨w.heap.size + 1, 0, none⟩ = some (.int .i64 r2) ∧ w'.cell? ⟨w.heap.size + 1, 1, none⟩ = some (.slice a2 z2.length cap2) ∧ w'.cell? ⟨w6.heap.size, 0, none⟩ = some (.int .i64 r2) ∧ w'.cell? ⟨w6.heap.size, 1, none⟩ = some (.slice a4 z2.length c4)) (first | go_keep)
              (first | (go_at_call 31; have z9 := X0; clear z9; refine (toReport_law r2 _ z2 _ hq2 (HR2.out.below (HB9.out.trans (Below.mono (by first | exact X0.out | exact X0.out.drew | exact X0.out.drew.drew) HB9.out.size)))).mono ?_; rintro e v1 ⟨a9, c9, f9, rfl, hy9, hb⟩; have hbr : Below w9.heap.size w9 v1 := below_via (by first | exact X0.out | exact X0.out.drew | exact X0.out.drew.drew) hb; have kce0 := (hbr.cell (p := ⟨w.heap.size + 1, 0, none⟩) le).trans ce0; have kce1 := (hbr.cell (p := ⟨w.heap.size + 1, 1, none⟩) le).trans ce1; have kcy0 := (hbr.cell (p := ⟨w6.heap.size, 0, none⟩) ly).trans cy0; have kcy1 := (hbr.cell (p := ⟨w6.heap.size, 1, none⟩) ly).trans cy1; have HY9 := Lib.hid (hy9); have X1 := Lib.hid hbr; clear hbr hb X0) | (go_at_call 25; have z9 := X1; clear z9; refine (eqReport_same r2 _ _ z2 _ (by omega) ((owC_rd Oy_9.out).below (by first | exact X1.out | exact X1.out.drew | exact X1.out.drew.drew)) ((owC_rd HY9.out).below (by first | exact (Below.refl _ _) | exact (Below.refl _ _).drew | exact (Below.refl _ _).drew.drew))).mono ?_; rintro e v2 ⟨rfl, hb⟩; have hbr : Below w9.heap.size w9 v2 := below_via (by first | exact X1.out | exact X1.out.drew | exact X1.out.drew.drew) hb; have kce0 := (hbr.cell (p := ⟨w.heap.size + 1, 0, none⟩) le).trans ce0; have kce1 := (hbr.cell (p := ⟨w.heap.size + 1, 1, none⟩) le).trans ce1; have kcy0 := (hbr.cell (p := ⟨w6.heap.size, 0, none⟩) ly).trans cy0; have kcy1 := (hbr.cell (p := ⟨w6.heap.size, 1, none⟩) ly).trans cy1; have X2 := Lib.hid hbr; clear hbr hb X1))
            all_goals
              go_wp2
              go_meet
              exact ⟨rfl, by first | exact X2.out | exact X2.out.drew | exact X2.out.drew.drew⟩
          case rest =>
            obtain ⟨rfl, hb⟩ := hcut
            obtain ⟨w10, hw⟩ : ∃ x, x = wc := ⟨_, rfl⟩
            rw [← hw] at hb ⊢
            clear hw
            have HB10 := Lib.hid (HB9.out.trans (hb.mono HB9.out.size))
            have HS10 := Lib.hid hb.size
            have Kd_10 := Lib.hid (blk_below Kd_9.out hb)
            have Ke_10 := Lib.hid (blk_below Ke_9.out hb)
            have Kx_10 := Lib.hid (blk_below Kx_9.out hb)
            have Ky_10 := Lib.hid (blk_below Ky_9.out hb)
            have Ox_10 := Lib.hid (Ox_9.out.below hb)
            have Oy_10 := Lib.hid (Oy_9.out.below hb)
            clear Kd_9 Ke_9 Kx_9 Ky_9 Ox_9 Oy_9
            clear hb
            go_wp2
            go_ret
            exact ⟨rfl, HB10.out⟩
    · have hsq : (if (1048576 : Int) - (z1.length : Int) < (z2.length : Int) then -1 else (1048576 : Int) - (z1.length : Int) - (z2.length : Int)) = -1 := if_pos (by omega)
      have HSQ := Lib.hid hsq
      clear hsq
      obtain ⟨w0, hw0⟩ : ∃ x, x = ((w.alloc (.cells #[.int .i64 r1, .slice a1 z1.length cap1] 47)).alloc (.cells #[.int .i64 r2, .slice a2 z2.length cap2] 47)) := ⟨_, rfl⟩
      have HB0 := Lib.hid (show Below w.heap.size w w0 by rw [hw0]; exact ((Below.refl _ _).alloc (Nat.le_refl _) _).alloc (by simp) _)
      have Kd_0 := Lib.hid (show w0.heap[w.heap.size]? = some (.cells #[.int .i64 r1, .slice a1 z1.length cap1] 47 (0, 0)) by rw [hw0]; rw [Below.heap_alloc _ _ _ (by simp <;> omega)]; exact heap_alloc_new w _)
      have Ke_0 := Lib.hid (show w0.heap[w.heap.size + 1]? = some (.cells #[.int .i64 r2, .slice a2 z2.length cap2] 47 (0, 0)) by rw [hw0]; simpa using heap_alloc_new (w.alloc (.cells #[.int .i64 r1, .slice a1 z1.length cap1] 47)) _)
      have SZ0 := Lib.hid (show w0.heap.size = w.heap.size + 1 + 1 by rw [hw0]; simp)
      have HW := Lib.hid hw0
      clear hw0
      go_enter Try.func8, Try.ntmps8
      have cd0 := (cells_of_heap Kd_0.out 0 (by simp)).1
      have cd1 := (cells_of_heap Kd_0.out 1 (by simp)).1
      go_wp2_with fail
      rw [← HW.out]
      refine (szReport_any r1 a1 z1.length cap1 1048576 _ (by omega) (by omega) hml1).mono ?_
      rw [HSZ.out]
      rintro e w1 ⟨rfl, hb⟩
      clear cd0 cd1
      have HB1 := Lib.hid (HB0.out.trans (hb.mono HB0.out.size))
      have HS1 := Lib.hid hb.size
      have Kd_1 := Lib.hid (blk_below Kd_0.out hb)
      have Ke_1 := Lib.hid (blk_below Ke_0.out hb)
      clear Kd_0 Ke_0
      clear hb
      have ce0 := (cells_of_heap Ke_1.out 0 (by simp)).1
      have ce1 := (cells_of_heap Ke_1.out 1 (by simp)).1
      go_wp2_with fail
      refine (szReport_any r2 a2 z2.length cap2 (1048576 - (z1.length : Int)) _ (by omega) (by omega) hml2).mono ?_
      rw [HSQ.out]
      rintro e w2 ⟨rfl, hb⟩
      clear ce0 ce1
      have HB2 := Lib.hid (HB1.out.trans (hb.mono HB1.out.size))
      have HS2 := Lib.hid hb.size
      have Kd_2 := Lib.hid (blk_below Kd_1.out hb)
      have Ke_2 := Lib.hid (blk_below Ke_1.out hb)
      clear Kd_1 Ke_1
      clear hb
      go_wp2
      go_ret
      exact ⟨rfl, HB2.out⟩
  · have hsz : (if (1048576 : Int) < (z1.length : Int) then -1 else (1048576 : Int) - (z1.length : Int)) = -1 := if_pos (by omega)
    have HSZ := Lib.hid hsz
    clear hsz
    clear hl1
    obtain ⟨w0, hw0⟩ : ∃ x, x = ((w.alloc (.cells #[.int .i64 r1, .slice a1 z1.length cap1] 47)).alloc (.cells #[.int .i64 r2, .slice a2 z2.length cap2] 47)) := ⟨_, rfl⟩
    have HB0 := Lib.hid (show Below w.heap.size w w0 by rw [hw0]; exact ((Below.refl _ _).alloc (Nat.le_refl _) _).alloc (by simp) _)
    have Kd_0 := Lib.hid (show w0.heap[w.heap.size]? = some (.cells #[.int .i64 r1, .slice a1 z1.length cap1] 47 (0, 0)) by rw [hw0]; rw [Below.heap_alloc _ _ _ (by simp <;> omega)]; exact heap_alloc_new w _)
    have Ke_0 := Lib.hid (show w0.heap[w.heap.size + 1]? = some (.cells #[.int .i64 r2, .slice a2 z2.length cap2] 47 (0, 0)) by rw [hw0]; simpa using heap_alloc_new (w.alloc (.cells #[.int .i64 r1, .slice a1 z1.length cap1] 47)) _)
    have SZ0 := Lib.hid (show w0.heap.size = w.heap.size + 1 + 1 by rw [hw0]; simp)
    have HW := Lib.hid hw0
    clear hw0
    go_enter Try.func8, Try.ntmps8
    have cd0 := (cells_of_heap Kd_0.out 0 (by simp)).1
    have cd1 := (cells_of_heap Kd_0.out 1 (by simp)).1
    go_wp2_with fail
    rw [← HW.out]
    refine (szReport_any r1 a1 z1.length cap1 1048576 _ (by omega) (by omega) hml1).mono ?_
    rw [HSZ.out]
    rintro e w1 ⟨rfl, hb⟩
    clear cd0 cd1
    have HB1 := Lib.hid (HB0.out.trans (hb.mono HB0.out.size))
    have HS1 := Lib.hid hb.size
    have Kd_1 := Lib.hid (blk_below Kd_0.out hb)
    have Ke_1 := Lib.hid (blk_below Ke_0.out hb)
    clear Kd_0 Ke_0
    clear hb
    go_wp2
    go_ret
    exact ⟨rfl, HB1.out⟩

end Go.Proofs.Ytghijkpcmamebaa
