/- DERIVED. The exact laws of FormatReport and ParseReport: each, called with any argument, returns true and changes nothing that was there; what the program's function does is a premise. -/
import Derived.Test.YtghijkpcmamebaaDoorRpPa
import Derived.Test.YtghijkpcmamebaaDoorRpLaw2
namespace Go.Proofs.YtghijkpcmamebaaDoor
open Go.RowKit

theorem prV_len (s : ByteArray) (_h : s.size ≤ 1048576) : (prV s).z.length ≤ 56 := by
  rw [prV]; split
  · rename_i h
    show (prZ s).length ≤ 56
    rcases hk : okRp (prR s) (prZ s) with _ | _
    · -- a text that is no report's is empty; an empty text has no two parts
      exfalso
      have h1 := h.2
      rw [rpT, hk] at h1
      have h2 := parts_len s 58
      have h3 : s.size = 0 := by rw [← h1]; rfl
      have := h.1
      omega
    · exact okRp_len hk
  · simp
theorem specParseReport_law (s : ByteArray) (rr : Int) (rz : List Int) (rb : Bool) (hR : prV s = ⟨rr, rz, rb⟩) (w : World) (hl : s.size ≤ 1048576) :
    Calls Tryd.prog 21 #[.string s] w (RpTO ⟨rr, rz, rb⟩ w) := by
  have hlen := prV_len s hl
  rw [hR] at hlen
  replace hlen : rz.length ≤ 56 := hlen
  exact (specParseReport_any s w hl).mono fun _ _ hp => by rw [hR] at hp; exact rpTO hp (by show rz.length ≤ 1048576; omega)

set_option maxHeartbeats 1000000 in
set_option maxRecDepth 100000 in
theorem lawFormatReport_walk (r : Int) (a : Option Addr) (m cap : Nat) (zs : List Int) (w : World) (hm : zs.length = m) (hml : m ≤ maxLen) (h : Rd w (.slice a m cap) (zs.map (.int .i64))) (hI : ∀ (r : Int) (u : Value) (zs : List Int) (w' : World), Below w.heap.size w w' → zs.length ≤ maxLen → Rd w' u (zs.map (.int .i64)) → Calls Tryd.prog 11 #[rpv r u] w' fun e w'' => e = .returned (.string (rpT r zs)) ∧ Below w'.heap.size w' w'') : Calls Tryd.prog 4 #[rpv r (.slice a m cap)] w fun e w' => e = .returned (.bool true) ∧ Below w.heap.size w w' := by
  subst hm
  have HR := Lib.hid h
  have hI := hI r
  have HML := Lib.hid hml
  obtain ⟨T, hz⟩ : ∃ x, x = rpT r zs := ⟨_, rfl⟩
  have HI := Lib.hid (show ∀ (u : Value) (w' : World), Below w.heap.size w w' → zs.length ≤ maxLen → Rd w' u (zs.map (.int .i64)) → Calls Tryd.prog 11 #[rpv r u] w' fun e w'' => e = .returned (.string T) ∧ Below w'.heap.size w' w'' from fun u w' hb hl hr => by rw [hz]; exact hI u zs w' hb hl hr)
  have HZR := Lib.hid hz
  clear h hI hz hml
  have hb0 : (!(T.toList == T.toList)) = false := by simp
  by_cases hl : zs.length ≤ 1048576
  · have hsz : (if (1048576 : Int) < (zs.length : Int) then -1 else (1048576 : Int) - (zs.length : Int)) = 1048576 - (zs.length : Int) := if_neg (by omega)
    have hsz0 : ¬ (1048576 : Int) - (zs.length : Int) < 0 := by omega
    have HSZ := Lib.hid hsz
    have HL := Lib.hid hl
    clear hsz hl
    obtain ⟨w0, hw0⟩ : ∃ x, x = (w.alloc (.cells #[.int .i64 r, .slice a zs.length cap] 35)) := ⟨_, rfl⟩
    have HB0 := Lib.hid (show Below w.heap.size w w0 by rw [hw0]; exact (Below.refl _ _).alloc (Nat.le_refl _) _)
    have Kd_0 := Lib.hid (show w0.heap[w.heap.size]? = some (.cells #[.int .i64 r, .slice a zs.length cap] 35 (0, 0)) by rw [hw0]; exact heap_alloc_new w _)
    have SZ0 := Lib.hid (show w0.heap.size = w.heap.size + 1 by rw [hw0]; simp)
    have HW := Lib.hid hw0
    clear hw0
    go_enter Tryd.func4, Tryd.ntmps4
    have cd0 := (cells_of_heap Kd_0.out 0 (by simp)).1
    have cd1 := (cells_of_heap Kd_0.out 1 (by simp)).1
    go_wp2_with fail
    rw [← HW.out]
    refine (szReport_any r a zs.length cap 1048576 _ (by omega) (by omega) HML.out).mono ?_
    rw [HSZ.out]
    rintro e w1 ⟨rfl, hb⟩
    clear cd0 cd1
    have HB1 := Lib.hid (HB0.out.trans (hb.mono HB0.out.size))
    have HS1 := Lib.hid hb.size
    have Kd_1 := Lib.hid (blk_below Kd_0.out hb)
    clear Kd_0
    clear hb
    have cd0 := (cells_of_heap Kd_1.out 0 (by simp)).1
    have cd1 := (cells_of_heap Kd_1.out 1 (by simp)).1
    go_wp2_with fail
    refine (toReport_law r _ zs _ HL.out (HR.out.below HB1.out)).mono ?_
    rintro e w2 ⟨a1, c1, f1, rfl, h1, hb⟩
    clear cd0 cd1
    have HB2 := Lib.hid (HB1.out.trans (hb.mono HB1.out.size))
    have HS2 := Lib.hid hb.size
    have Kd_2 := Lib.hid (blk_below Kd_1.out hb)
    clear Kd_1
    have Rt := Lib.hid (h1.rng)
    have Ot_2 := Lib.hid h1
    clear hb h1
    go_wp2_with fail
    refine (specFormatReport_q r _ zs T HZR.out _ (by have := HL.out; unfold maxLen; omega) (owC_rd Ot_2.out)).mono ?_
    rintro e w3 ⟨rfl, hb⟩
    have HB3 := Lib.hid (HB2.out.trans (hb.mono HB2.out.size))
    have HS3 := Lib.hid hb.size
    have Kd_3 := Lib.hid (blk_below Kd_2.out hb)
    have Ot_3 := Lib.hid (Ot_2.out.below hb)
    clear Kd_2 Ot_2
    clear hb
    have cd0 := (cells_of_heap Kd_3.out 0 (by simp)).1
    have cd1 := (cells_of_heap Kd_3.out 1 (by simp)).1
    go_wp2_with fail
    refine (toReport_law r _ zs _ HL.out (HR.out.below HB3.out)).mono ?_
    rintro e w4 ⟨a2, c2, f2, rfl, h2, hb⟩
    clear cd0 cd1
    have HB4 := Lib.hid (HB3.out.trans (hb.mono HB3.out.size))
    have HS4 := Lib.hid hb.size
    have Kd_4 := Lib.hid (blk_below Kd_3.out hb)
    have Ot_4 := Lib.hid (Ot_3.out.below hb)
    clear Kd_3 Ot_3
    have Rx := Lib.hid (h2.rng)
    have Ox_4 := Lib.hid h2
    clear hb h2
    go_upto_region 7 with (fail)
    obtain ⟨w5, hw⟩ : ∃ x, x = w4.alloc (.cells #[.int .i64 r, .slice a2 zs.length c2] 26) := ⟨_, rfl⟩
    have hb : Below w4.heap.size w4 w5 := by rw [hw]; exact below_alloc1 _ _
    have hk : w5.heap[w4.heap.size]? = some (.cells #[.int .i64 r, .slice a2 zs.length c2] 26 (0, 0)) := by rw [hw]; exact heap_alloc_new _ _
    rw [← hw]
    have HB5 := Lib.hid (HB4.out.trans (hb.mono HB4.out.size))
    have HS5 := Lib.hid (show w4.heap.size < w5.heap.size from (Array.getElem?_eq_some_iff.mp hk).1)
    have Kd_5 := Lib.hid (blk_below Kd_4.out hb)
    have Ot_5 := Lib.hid (Ot_4.out.below hb)
    have Ox_5 := Lib.hid (Ox_4.out.below hb)
    clear Kd_4 Ot_4 Ox_4
    have Kx_5 := Lib.hid hk
    clear hb hk hw
    have cx0 := (cells_of_heap Kx_5.out 0 (by simp)).1
    have cx1 := (cells_of_heap Kx_5.out 1 (by simp)).1
    go_wp2_with fail
    refine (HI.out _ _ HB5.out (by have := HL.out; unfold maxLen; omega) (owC_rd Ox_5.out)).mono ?_
    rintro e w6 ⟨rfl, hb⟩
    clear cx0 cx1
    have HB6 := Lib.hid (HB5.out.trans (hb.mono HB5.out.size))
    have HS6 := Lib.hid hb.size
    have Kd_6 := Lib.hid (blk_below Kd_5.out hb)
    have Kx_6 := Lib.hid (blk_below Kx_5.out hb)
    have Ot_6 := Lib.hid (Ot_5.out.below hb)
    have Ox_6 := Lib.hid (Ox_5.out.below hb)
    clear Kd_5 Kx_5 Ot_5 Ox_5
    clear hb
    go_upto_region 10 with (fail)
    go_cut [26] (fun sd wx => sd = .bool false ∧ Below w6.heap.size w6 wx)
    case first =>
      have cd0 := (cells_of_heap Kd_6.out 0 (by simp)).1
      have cd1 := (cells_of_heap Kd_6.out 1 (by simp)).1
      have cx0 := (cells_of_heap Kx_6.out 0 (by simp)).1
      have cx1 := (cells_of_heap Kx_6.out 1 (by simp)).1
      have ld : w.heap.size < w6.heap.size := (Array.getElem?_eq_some_iff.mp Kd_6.out).1
      have lx : w4.heap.size < w6.heap.size := (Array.getElem?_eq_some_iff.mp Kx_6.out).1
      go_region_held3 (fun w' => w'.cell? ⟨w.heap.size, 0, none⟩ = some (.int .i64 r) ∧ w'.cell? ⟨w.heap.size, 1, none⟩ = some (.slice a zs.length cap) ∧ w'.cell? ⟨w4.heap.size, 0, none⟩ = some (.int .i64 r) ∧ w'.cell? ⟨w4.heap.size, 1, none⟩ = some (.slice a2 zs.length c2)) (first | go_keep)
        (first | (go_at_call 19; refine (toReport_law r _ zs _ HL.out (HR.out.below (by first | exact HB6.out | exact HB6.out.drew | exact HB6.out.drew.drew))).mono ?_; rintro e v1 ⟨a3, c3, f3, rfl, hy, hb1⟩; have hbr : Below w6.heap.size w6 v1 := (by first | exact hb1 | exact ((Below.refl _ _).drew).trans hb1 | exact ((Below.refl _ _).drew.drew).trans hb1); have kcd0 := (hbr.cell (p := ⟨w.heap.size, 0, none⟩) ld).trans cd0; have kcd1 := (hbr.cell (p := ⟨w.heap.size, 1, none⟩) ld).trans cd1; have kcx0 := (hbr.cell (p := ⟨w4.heap.size, 0, none⟩) lx).trans cx0; have kcx1 := (hbr.cell (p := ⟨w4.heap.size, 1, none⟩) lx).trans cx1; have HBR := Lib.hid hbr; have HY := Lib.hid hy; clear hbr hb1 hy) | (go_at_call 20; refine (eqReport_same r _ _ zs _ (by have := HL.out; omega) ((owC_rd Ox_6.out).below (by first | exact HBR.out | exact HBR.out.drew | exact HBR.out.drew.drew)) ((owC_rd HY.out).below (by first | exact Below.refl _ _ | exact (Below.refl _ _).drew | exact (Below.refl _ _).drew.drew))).mono ?_; rintro e v2 ⟨rfl, hb2⟩; have hbr : Below w6.heap.size w6 v2 := (by first | exact HBR.out.trans (hb2.mono HBR.out.size) | exact HBR.out.trans (((Below.refl _ _).drew.trans hb2).mono HBR.out.size) | exact HBR.out.trans (((Below.refl _ _).drew.drew.trans hb2).mono HBR.out.size)); have kcd0 := (hbr.cell (p := ⟨w.heap.size, 0, none⟩) ld).trans cd0; have kcd1 := (hbr.cell (p := ⟨w.heap.size, 1, none⟩) ld).trans cd1; have kcx0 := (hbr.cell (p := ⟨w4.heap.size, 0, none⟩) lx).trans cx0; have kcx1 := (hbr.cell (p := ⟨w4.heap.size, 1, none⟩) lx).trans cx1; have HB2 := Lib.hid hbr; clear hbr hb2))
      all_goals
        go_wp2
        go_meet
        exact ⟨rfl, by first | exact HB2.out | exact HB2.out.drew⟩
    case rest =>
      obtain ⟨rfl, hb⟩ := hcut
      obtain ⟨w7, hw⟩ : ∃ x, x = wc := ⟨_, rfl⟩
      rw [← hw] at hb ⊢
      clear hw
      have HB7 := Lib.hid (HB6.out.trans (hb.mono HB6.out.size))
      have HS7 := Lib.hid hb.size
      have Kd_7 := Lib.hid (blk_below Kd_6.out hb)
      have Kx_7 := Lib.hid (blk_below Kx_6.out hb)
      have Ot_7 := Lib.hid (Ot_6.out.below hb)
      have Ox_7 := Lib.hid (Ox_6.out.below hb)
      clear Kd_6 Kx_6 Ot_6 Ox_6
      clear hb
      go_wp2
      go_ret
      exact ⟨rfl, HB7.out⟩
  · have hsz : (if (1048576 : Int) < (zs.length : Int) then -1 else (1048576 : Int) - (zs.length : Int)) = -1 := if_pos (by omega)
    have HSZ := Lib.hid hsz
    clear hsz hl
    obtain ⟨w0, hw0⟩ : ∃ x, x = (w.alloc (.cells #[.int .i64 r, .slice a zs.length cap] 35)) := ⟨_, rfl⟩
    have HB0 := Lib.hid (show Below w.heap.size w w0 by rw [hw0]; exact (Below.refl _ _).alloc (Nat.le_refl _) _)
    have Kd_0 := Lib.hid (show w0.heap[w.heap.size]? = some (.cells #[.int .i64 r, .slice a zs.length cap] 35 (0, 0)) by rw [hw0]; exact heap_alloc_new w _)
    have SZ0 := Lib.hid (show w0.heap.size = w.heap.size + 1 by rw [hw0]; simp)
    have HW := Lib.hid hw0
    clear hw0
    go_enter Tryd.func4, Tryd.ntmps4
    have cd0 := (cells_of_heap Kd_0.out 0 (by simp)).1
    have cd1 := (cells_of_heap Kd_0.out 1 (by simp)).1
    go_wp2_with fail
    rw [← HW.out]
    refine (szReport_any r a zs.length cap 1048576 _ (by omega) (by omega) HML.out).mono ?_
    rw [HSZ.out]
    rintro e w1 ⟨rfl, hb⟩
    clear cd0 cd1
    have HB1 := Lib.hid (HB0.out.trans (hb.mono HB0.out.size))
    have HS1 := Lib.hid hb.size
    have Kd_1 := Lib.hid (blk_below Kd_0.out hb)
    clear Kd_0
    clear hb
    go_wp2
    go_ret
    exact ⟨rfl, HB1.out⟩

set_option maxHeartbeats 1000000 in
set_option maxRecDepth 100000 in
theorem lawParseReport_walk (s : ByteArray) (w : World) (hI : ∀ (s : ByteArray) (w' : World), Below w.heap.size w w' → s.size ≤ 1048576 → Calls Tryd.prog 10 #[.string s] w' (RpTO (prV s) w')) : Calls Tryd.prog 5 #[.string s] w fun e w' => e = .returned (.bool true) ∧ Below w.heap.size w w' := by
  by_cases hl : s.size ≤ 1048576
  · have hl2 : ¬ (1048576 : Int) < (s.size : Int) := by omega
    have hlen := prV_len s hl
    obtain ⟨⟨rr, rz, rb⟩, hR⟩ : ∃ x, prV s = x := ⟨_, rfl⟩
    rw [hR] at hlen
    replace hlen : rz.length ≤ 56 := hlen
    have HI := Lib.hid (show ∀ w' : World, Below w.heap.size w w' → Calls Tryd.prog 10 #[.string s] w' (RpTO ⟨rr, rz, rb⟩ w') from fun w' hb => by rw [← hR]; exact hI s w' hb hl)
    have HE1 := Lib.hid (show rz.length ≤ 1000000000000 by omega)
    have HE2 := Lib.hid (show rz.length ≤ 1099511627776 by omega)
    have HE3 := Lib.hid (show rz.length ≤ 1048576 by omega)
    have HL := Lib.hid hl
    have HRR := Lib.hid hR
    clear hI hR hlen hl
    obtain ⟨qr, hqr⟩ : ∃ q : Int, q = 1 + (rz.length : Int) := ⟨_, rfl⟩
    have hqr0 : ¬ qr < 0 := by omega
    have HQR := Lib.hid hqr
    clear hqr
    have HB0 := Lib.hid (Below.refl w.heap.size w)
    go_enter Tryd.func5, Tryd.ntmps5
    go_wp2_with fail
    refine (specParseReport_law s rr rz rb HRR.out _ HL.out).mono ?_
    rintro e w1 ⟨a1, c1, f1, rfl, h1, hb⟩
    have HB1 := Lib.hid (HB0.out.trans (hb.mono HB0.out.size))
    have HS1 := Lib.hid hb.size
    have Rw := Lib.hid (h1.rng)
    have Ow_1 := Lib.hid h1
    clear hb h1
    go_upto_region 4 with (fail)
    obtain ⟨w2, hw⟩ : ∃ x, x = w1.alloc (.cells #[.int .i64 rr, .slice a1 rz.length c1] 26) := ⟨_, rfl⟩
    have hb : Below w1.heap.size w1 w2 := by rw [hw]; exact below_alloc1 _ _
    have hk : w2.heap[w1.heap.size]? = some (.cells #[.int .i64 rr, .slice a1 rz.length c1] 26 (0, 0)) := by rw [hw]; exact heap_alloc_new _ _
    rw [← hw]
    have HB2 := Lib.hid (HB1.out.trans (hb.mono HB1.out.size))
    have HS2 := Lib.hid (show w1.heap.size < w2.heap.size from (Array.getElem?_eq_some_iff.mp hk).1)
    have Ow_2 := Lib.hid (Ow_1.out.below hb)
    clear Ow_1
    have Kw_2 := Lib.hid hk
    clear hb hk hw
    go_wp2_with fail
    refine (HI.out _ HB2.out).mono ?_
    rintro e w3 ⟨a2, c2, f2, rfl, h2, hb⟩
    have HB3 := Lib.hid (HB2.out.trans (hb.mono HB2.out.size))
    have HS3 := Lib.hid hb.size
    have Kw_3 := Lib.hid (blk_below Kw_2.out hb)
    have Ow_3 := Lib.hid (Ow_2.out.below hb)
    clear Kw_2 Ow_2
    have Rg := Lib.hid (h2.rng)
    have Og_3 := Lib.hid h2
    clear hb h2
    go_upto_region 5 with (fail)
    obtain ⟨w4, hw⟩ : ∃ x, x = w3.alloc (.cells #[.int .i64 rr, .slice a2 rz.length c2] 26) := ⟨_, rfl⟩
    have hb : Below w3.heap.size w3 w4 := by rw [hw]; exact below_alloc1 _ _
    have hk : w4.heap[w3.heap.size]? = some (.cells #[.int .i64 rr, .slice a2 rz.length c2] 26 (0, 0)) := by rw [hw]; exact heap_alloc_new _ _
    rw [← hw]
    have HB4 := Lib.hid (HB3.out.trans (hb.mono HB3.out.size))
    have HS4 := Lib.hid (show w3.heap.size < w4.heap.size from (Array.getElem?_eq_some_iff.mp hk).1)
    have Kw_4 := Lib.hid (blk_below Kw_3.out hb)
    have Ow_4 := Lib.hid (Ow_3.out.below hb)
    have Og_4 := Lib.hid (Og_3.out.below hb)
    clear Kw_3 Ow_3 Og_3
    have Kg_4 := Lib.hid hk
    clear hb hk hw
    have cg0 := (cells_of_heap Kg_4.out 0 (by simp)).1
    have cg1 := (cells_of_heap Kg_4.out 1 (by simp)).1
    have cw0 := (cells_of_heap Kw_4.out 0 (by simp)).1
    have cw1 := (cells_of_heap Kw_4.out 1 (by simp)).1
    go_wp2_with fail
    refine (eqReport_same rr _ _ rz _ HE1.out (owC_rd Og_4.out) (owC_rd Ow_4.out)).mono ?_
    rintro e w5 ⟨rfl, hb⟩
    clear cg0 cg1 cw0 cw1
    have HB5 := Lib.hid (HB4.out.trans (hb.mono HB4.out.size))
    have HS5 := Lib.hid hb.size
    have Kw_5 := Lib.hid (blk_below Kw_4.out hb)
    have Kg_5 := Lib.hid (blk_below Kg_4.out hb)
    have Ow_5 := Lib.hid (Ow_4.out.below hb)
    have Og_5 := Lib.hid (Og_4.out.below hb)
    clear Kw_4 Kg_4 Ow_4 Og_4
    clear hb
    have cg0 := (cells_of_heap Kg_5.out 0 (by simp)).1
    have cg1 := (cells_of_heap Kg_5.out 1 (by simp)).1
    go_wp2_with fail
    refine (markReport_q _ rr _ rz _ 1 qr HQR.out _ HE2.out (by decide) (by decide) Og_5.out).mono ?_
    rintro e w6 ⟨rfl, ho, ht⟩
    clear cg0 cg1
    have HB6 := Lib.hid (HB5.out.trans (ht.below (fun b hb => by have := Rg.out b hb; have := HB2.out.size; omega) HB5.out.size))
    have HS6 := Lib.hid ht.size
    have Kw_6 := Lib.hid (blk_turn Kw_5.out ht (fun hm => by have := Rg.out _ hm; have := HS2.out; omega))
    have Kg_6 := Lib.hid (blk_turn Kg_5.out ht (fun hm => by have := Rg.out _ hm; omega))
    have Ow_6 := Lib.hid (Ow_5.out.turn ht (fun b hb hb' => by have := Rg.out b hb'; have := Rw.out b hb; have := HS2.out; omega))
    have Og_6 := Lib.hid ho
    clear ho ht Kw_5 Kg_5 Ow_5 Og_5
    have cg0 := (cells_of_heap Kg_6.out 0 (by simp)).1
    have cg1 := (cells_of_heap Kg_6.out 1 (by simp)).1
    go_wp2_with fail
    refine (heldReport_q rr _ rz.length 1 qr HQR.out _ HE3.out (by decide) (by decide) (owC_marks Og_6.out)).mono ?_
    rintro e w7 ⟨rfl, hb⟩
    clear cg0 cg1
    have HB7 := Lib.hid (HB6.out.trans (hb.mono HB6.out.size))
    have HS7 := Lib.hid hb.size
    have Kw_7 := Lib.hid (blk_below Kw_6.out hb)
    have Kg_7 := Lib.hid (blk_below Kg_6.out hb)
    have Ow_7 := Lib.hid (Ow_6.out.below hb)
    have Og_7 := Lib.hid (Og_6.out.below hb)
    clear Kw_6 Kg_6 Ow_6 Og_6
    clear hb
    go_wp2_with fail
    refine (HI.out _ HB7.out).mono ?_
    rintro e w8 ⟨a3, c3, f3, rfl, h3, hb⟩
    have HB8 := Lib.hid (HB7.out.trans (hb.mono HB7.out.size))
    have HS8 := Lib.hid hb.size
    have Kw_8 := Lib.hid (blk_below Kw_7.out hb)
    have Kg_8 := Lib.hid (blk_below Kg_7.out hb)
    have Ow_8 := Lib.hid (Ow_7.out.below hb)
    have Og_8 := Lib.hid (Og_7.out.below hb)
    clear Kw_7 Kg_7 Ow_7 Og_7
    have Rh := Lib.hid (h3.rng)
    have Oh_8 := Lib.hid h3
    clear hb h3
    go_upto_region 16 with (fail)
    obtain ⟨w9, hw⟩ : ∃ x, x = w8.alloc (.cells #[.int .i64 rr, .slice a3 rz.length c3] 26) := ⟨_, rfl⟩
    have hb : Below w8.heap.size w8 w9 := by rw [hw]; exact below_alloc1 _ _
    have hk : w9.heap[w8.heap.size]? = some (.cells #[.int .i64 rr, .slice a3 rz.length c3] 26 (0, 0)) := by rw [hw]; exact heap_alloc_new _ _
    rw [← hw]
    have HB9 := Lib.hid (HB8.out.trans (hb.mono HB8.out.size))
    have HS9 := Lib.hid (show w8.heap.size < w9.heap.size from (Array.getElem?_eq_some_iff.mp hk).1)
    have Kw_9 := Lib.hid (blk_below Kw_8.out hb)
    have Kg_9 := Lib.hid (blk_below Kg_8.out hb)
    have Ow_9 := Lib.hid (Ow_8.out.below hb)
    have Og_9 := Lib.hid (Og_8.out.below hb)
    have Oh_9 := Lib.hid (Oh_8.out.below hb)
    clear Kw_8 Kg_8 Ow_8 Og_8 Oh_8
    have Kh_9 := Lib.hid hk
    clear hb hk hw
    have ch0 := (cells_of_heap Kh_9.out 0 (by simp)).1
    have ch1 := (cells_of_heap Kh_9.out 1 (by simp)).1
    have cw0 := (cells_of_heap Kw_9.out 0 (by simp)).1
    have cw1 := (cells_of_heap Kw_9.out 1 (by simp)).1
    go_wp2_with fail
    refine (eqReport_same rr _ _ rz _ HE1.out (owC_rd Oh_9.out) (owC_rd Ow_9.out)).mono ?_
    rintro e w10 ⟨rfl, hb⟩
    clear ch0 ch1 cw0 cw1
    have HB10 := Lib.hid (HB9.out.trans (hb.mono HB9.out.size))
    have HS10 := Lib.hid hb.size
    have Kw_10 := Lib.hid (blk_below Kw_9.out hb)
    have Kg_10 := Lib.hid (blk_below Kg_9.out hb)
    have Kh_10 := Lib.hid (blk_below Kh_9.out hb)
    have Ow_10 := Lib.hid (Ow_9.out.below hb)
    have Og_10 := Lib.hid (Og_9.out.below hb)
    have Oh_10 := Lib.hid (Oh_9.out.below hb)
    clear Kw_9 Kg_9 Kh_9 Ow_9 Og_9 Oh_9
    clear hb
    have cg0 := (cells_of_heap Kg_10.out 0 (by simp)).1
    have cg1 := (cells_of_heap Kg_10.out 1 (by simp)).1
    go_wp2_with fail
    refine (heldReport_q rr _ rz.length 1 qr HQR.out _ HE3.out (by decide) (by decide) (owC_marks Og_10.out)).mono ?_
    rintro e w11 ⟨rfl, hb⟩
    clear cg0 cg1
    have HB11 := Lib.hid (HB10.out.trans (hb.mono HB10.out.size))
    have HS11 := Lib.hid hb.size
    have Kw_11 := Lib.hid (blk_below Kw_10.out hb)
    have Kg_11 := Lib.hid (blk_below Kg_10.out hb)
    have Kh_11 := Lib.hid (blk_below Kh_10.out hb)
    have Ow_11 := Lib.hid (Ow_10.out.below hb)
    have Og_11 := Lib.hid (Og_10.out.below hb)
    have Oh_11 := Lib.hid (Oh_10.out.below hb)
    clear Kw_10 Kg_10 Kh_10 Ow_10 Og_10 Oh_10
    clear hb
    go_wp2
    go_ret
    exact ⟨rfl, HB11.out⟩
  · have hl' : (1048576 : Int) < (s.size : Int) := by omega
    clear hl hI
    go_enter Tryd.func5, Tryd.ntmps5
    go_wp2
    go_ret
    exact ⟨rfl, Below.refl _ _⟩

end Go.Proofs.YtghijkpcmamebaaDoor
